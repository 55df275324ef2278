import Derived.Test.YthkdnehgamefiaaGreatRpW
import Derived.Test.YthkdnehgamefiaaGreatJy
namespace Go.Proofs.YthkdnehgamefiaaGreat
set_option linter.unusedVariables false
set_option maxHeartbeats 1600000
set_option maxRecDepth 1000000
open Go.RowKit Go.Sort
theorem dcl_any (x:ByteArray × Ex) (ko:Option Addr) (kc:Nat) (b0:Nat) (s:ByteArray) (z:Bool) (hz:(x.1.toList == s.toList)=z) (w:World) (hs:Own w b0 9 [.string s]) :
  Calls Tryz.prog 95 #[.agg #[.string x.1,.int .i64 x.2.op,.string x.2.text,.int .u64 x.2.s0,.int .u64 x.2.s1,.int .u64 x.2.s2,.int .u64 x.2.s3,.slice ko x.2.kids.length kc],.pointer (some ⟨b0,0,none⟩)] w fun e w'=>e=.returned (.bool z)/\Below w.heap.size w w':=by
 have HB:=aH ((Below.refl w.heap.size w).alloc (Nat.le_refl _) (.cells #[.string x.1,.int .i64 x.2.op,.string x.2.text,.int .u64 x.2.s0,.int .u64 x.2.s1,.int .u64 x.2.s2,.int .u64 x.2.s3,.slice ko x.2.kids.length kc] 51));have HX:=aH (Own.fresh w 51 [.string x.1,.int .i64 x.2.op,.string x.2.text,.int .u64 x.2.s0,.int .u64 x.2.s1,.int .u64 x.2.s2,.int .u64 x.2.s3,.slice ko x.2.kids.length kc]);have HS:=aH (hs.on_alloc (.cells #[.string x.1,.int .i64 x.2.op,.string x.2.text,.int .u64 x.2.s0,.int .u64 x.2.s1,.int .u64 x.2.s2,.int .u64 x.2.s3,.slice ko x.2.kids.length kc] 51));clear hs;go_enter Tryz.func95,Tryz.ntmps95;go_upto_region 1 with fail;generalize w.alloc _=w1 at *;have x0:=HX.o.cell 0;have xl:=HX.o.lt;have s0:=HS.o.cell 0;have sl:=HS.o.lt;go_wp2;go_ret;exact ⟨rfl,HB.o⟩
theorem didx_any (XL:List (ByteArray × Ex)) (p:(ByteArray × Ex)->Bool) (b0:Nat) (mo:Option Addr) (mc:Nat) (s:ByteArray) (w:World) (hs:Own w b0 9 [.string s]) (hn:(XL.length:Int)<=1000000)
  (hX:∀ k x,XL[k]?=some x->∃ b off ko kc,mo=some ⟨b,off,none⟩/\b < w.heap.size/\w.cell? ⟨b,off + k * 8,none⟩=some (.string x.1)/\w.cell? ⟨b,off + k * 8 + 1,none⟩=some (.int .i64 x.2.op)/\w.cell? ⟨b,off + k * 8 + 2,none⟩=some (.string x.2.text)/\w.cell? ⟨b,off + k * 8 + 3,none⟩=some (.int .u64 x.2.s0)/\w.cell? ⟨b,off + k * 8 + 4,none⟩=some (.int .u64 x.2.s1)/\w.cell? ⟨b,off + k * 8 + 5,none⟩=some (.int .u64 x.2.s2)/\w.cell? ⟨b,off + k * 8 + 6,none⟩=some (.int .u64 x.2.s3)/\w.cell? ⟨b,off + k * 8 + 7,none⟩=some (.slice ko x.2.kids.length kc)) (hp:∀ x,p x=(x.1.toList == s.toList)) :
  Calls Tryz.prog 117 #[.slice mo XL.length mc,.func (Fn.func 95) #[] #[.pointer (some ⟨b0,0,none⟩)]] w fun e w'=>e=.returned (.int .i64 (sU p 0 XL))/\Below w.heap.size w w':=by
 have HX:=aH hX;have HS0:=aH hs;have HPP:=aH hp;obtain ⟨n,hnn⟩:∃ n,XL.length=n:=⟨_,rfl⟩;have HN:=aH hnn;rw [hnn] at hn ⊢;clear hX hs hp hnn;have HB0:=aH (Below.refl w.heap.size w);go_enter Tryz.func117,Tryz.ntmps117;go_wp2_with fail
 go_loopw [8] (fun v8 wr=>∃ k:Nat,v8=.int .i64 (k:Int)/\(k:Int)<=n/\aQ (sU p 0 XL=sU p k (XL.drop k))/\aQ (Below w.heap.size w wr)) (fun v8 _=>n - (intOf v8).toNat)
 case atStart=>exact ⟨0,rfl,by omega,aH (by rw [List.drop_zero]),HB0⟩
 case round =>
  obtain ⟨k,rfl,hk,HQ,HB⟩:=hrel;clear HB0;have HS:=aH (HS0.o.under HB.o HS0.o.lt);have s0:=HS.o.cell 0;have sl:=HS.o.lt;by_cases hlt:(k:Int) < n
  ·
   obtain ⟨x,hx⟩:∃ x,XL[k]?=some x:=⟨_,aG (by have:=HN.o;omega)⟩
   have HD:=aH (show XL.drop k=x :: XL.drop (k + 1) from by
    obtain ⟨h1,h2⟩:=aS.1 hx
    rw [List.drop_eq_getElem_cons h1,h2])
   obtain ⟨b,off,ko,kc,rfl,hb,c0,c1,c2,c3,c4,c5,c6,c7⟩:=HX.o k x hx;have hbw:b < wr.heap.size:=aL hb HB.o.size;have d0:=aC c0 HB.o;have d1:=aC c1 HB.o;have d2:=aC c2 HB.o;have d3:=aC c3 HB.o;have d4:=aC c4 HB.o;have d5:=aC c5 HB.o;have d6:=aC c6 HB.o;have d7:=aC c7 HB.o;have hw1:IntKind.i64.wrap ((k:Int) + 1)=(k:Int) + 1:=wI;obtain ⟨z,hz⟩:∃ z,(x.1.toList == s.toList)=z:=⟨_,rfl⟩;have HZ:=aH (show sU p 0 XL=if z=true then (k:Int) else sU p (k + 1) (XL.drop (k + 1)) from by rw [HQ.o,HD.o,<- hz,<- HPP.o x];rfl);have HCC:=aH (dcl_any x ko kc b0 s z hz wr HS.o);clear hx HD HQ hb c0 c1 c2 c3 c4 c5 c6 c7;go_wp2_with fail;refine HCC.o.mono ?_;rintro e w1 ⟨rfl,hb1⟩;have HB1:=aH (HB.o.trans (hb1.mono HB.o.size));clear hb1
   cases z
   ·
    go_wp2
    go_roundw
    case rel=>exact ⟨k + 1,by go_num,by omega,aH (HZ.o.trans (if_neg (by decide))),HB1⟩
    case measure=>simp [intOf];omega
   · have HE:=aH (HZ.o.trans (if_pos rfl));go_wp2;go_ret;exact ⟨eF HE.o.symm,HB1.o⟩
  · have HE:=aH (show sU p 0 XL=-1 from by rw [HQ.o,List.drop_eq_nil_of_le (by have:=HN.o;omega)];rfl);have hlt':decide ((k:Int) < n)=false:=aF hlt;go_wp2;go_ret;exact ⟨eF HE.o.symm,HB.o⟩
theorem idxF_has {α:Type} (p:α->Bool):∀ (l:List α) (k:Nat),decide (0<=sU p k l)=l.any p
 | [],k=>by simp [sU]
 | x :: r,k=>by
  cases h:p x with
  | true=>simp [sU,h]
  | false=>simp only [sU,h,List.any_cons,Bool.false_or];simpa using idxF_has p r (k + 1)
theorem tl_eq {s t:ByteArray} (h:s.toList=t.toList):s=t:=by rw [ByteArray.toList_eq,ByteArray.toList_eq] at h;obtain ⟨⟨x⟩⟩:=s;obtain ⟨⟨y⟩⟩:=t;simp at h;rw [h]
theorem contS_has (l:List ByteArray) (s:ByteArray):Lib.containsS l s=hasB l s:=by
 have h:Lib.containsS l s=true ↔ hasB l s=true:=by rw [Lib.containsS_iff];unfold hasB;rw [List.any_eq_true];exact ⟨fun h=>⟨s,h,by simp⟩,fun ⟨x,hx,e⟩=>by rw [<- tl_eq (beq_iff_eq.1 e)];exact hx⟩
 cases h1:Lib.containsS l s <;> cases h2:hasB l s <;> simp_all
theorem word_nz {x:ByteArray} (h:bN x=true):(x.toList == (⟨#[]⟩:ByteArray).toList)=false:=by
 cases hx:x.toList == (⟨#[]⟩:ByteArray).toList with
 | false=>rfl
 | true =>
  have e:x=⟨#[]⟩:=tl_eq (beq_iff_eq.1 hx);subst e;exact absurd h (by decide +kernel)
theorem sN.take {w:World} {D n:Nat} {ro:Option Addr} {l:List (ByteArray × Ex)} (h:sN w D n ro l) (i:Nat):sN w D n ro (l.take i):=fun k x hx=>h k x (by
 rw [List.getElem?_take] at hx;split at hx
 · exact hx
 · cases hx)
theorem dhas_any (XL:List (ByteArray × Ex)) (D n:Nat) (ro:Option Addr) (rc:Nat) (s:ByteArray) (hn:(XL.length:Int)<=1000000) (w:World) (hM:sN w D n ro XL) :
  Calls Tryz.prog 66 #[.slice ro XL.length rc,.string s] w fun e w'=>e=.returned (.bool (hasB (XL.map (·.1)) s))/\Below w.heap.size w w':=by
 have hb:Below w.heap.size w (w.alloc (.cells #[.string s] 9)):=bA _;have hM2:=hM.but (But.of_below (S:=fun _=>False) hb) (fun _ h=>h.elim)
 have HC:=aH (didx_any XL (fun r=>r.1.toList == s.toList) w.heap.size ro rc s (w.alloc (.cells #[.string s] 9)) (Own.fresh w 9 [.string s]) hn (fun k x hx=>by
  obtain ⟨b,off,ko,kc,e,hlt,_,c0,c1,c2,c3,c4,c5,c6,c7,_⟩:=hM2 k x hx
  exact ⟨b,off,ko,kc,e,hlt,c0,c1,c2,c3,c4,c5,c6,c7⟩) (fun x=>rfl))
 have HH:=aH (show decide (0<=sU (fun r:ByteArray × Ex=>r.1.toList == s.toList) 0 XL)=hasB (XL.map (·.1)) s from by rw [idxF_has];unfold hasB;rw [List.any_map];rfl);have HB:=aH hb;obtain ⟨q,hq⟩:∃ q,sU (fun r:ByteArray × Ex=>r.1.toList == s.toList) 0 XL=q:=⟨_,rfl⟩;obtain ⟨z,hz⟩:∃ z,hasB (XL.map (·.1)) s=z:=⟨_,rfl⟩;obtain ⟨m,hm⟩:∃ m,XL.length=m:=⟨_,rfl⟩;rw [hq] at HC HH;rw [hz] at HH;rw [hm] at HC;rw [hz,hm];clear hb hM hM2 hq hz hm
 have HK:=aH (show Calls Tryz.prog 94 #[.slice ro m rc,.func (Fn.func 95) #[] #[.pointer (some ⟨w.heap.size,0,none⟩)]] (w.alloc (.cells #[.string s] 9)) fun e w'=>e=.returned (.bool z)/\Below w.heap.size w w' from by
  obtain ⟨w1,hw1⟩:∃ w1,w.alloc (.cells #[.string s] 9)=w1:=⟨_,rfl⟩;rw [hw1] at HC HB ⊢;clear hw1;go_enter Tryz.func94,Tryz.ntmps94;go_wp2_with fail;refine HC.o.mono ?_;rintro e w2 ⟨rfl,hb2⟩;have HB2:=aH (HB.o.trans (hb2.mono HB.o.size));clear hb2;have hz:decide (0<=q)=z:=HH.o;go_wp2;go_ret
  exact ⟨rfl,HB2.o⟩)
 clear HC HB HH;go_enter Tryz.func66,Tryz.ntmps66;go_wp2_with fail;refine HK.o.mono ?_;rintro e w2 ⟨rfl,hb2⟩;have HB2:=aH hb2;clear hb2;go_wp2;go_ret;exact ⟨rfl,HB2.o⟩
theorem dimp_any (l:List ByteArray) (io:Option Addr) (ic:Nat) (no t:ByteArray) (wet:Bool) (o a b c d:Int) (ko:Option Addr) (kn kc:Nat) (ro:Option Addr) (rn rc:Nat) (h4:l.length<=4) (hic:l.length<=ic) (hsz:∀ x ∈ l,x.size<=100000) (w:World) (hl:gI w io l) :
  Calls Tryz.prog 35 #[.agg #[.string no,.slice io l.length ic,.bool wet,.int .i64 o,.string t,.int .u64 a,.int .u64 b,.int .u64 c,.int .u64 d,.slice ko kn kc,.slice ro rn rc]] w fun e w'=>e=.returned (.bool (nL no [] l))/\Below w.heap.size w w':=by
 have HL:=aH hl;have HSZ:=aH hsz;obtain ⟨n,hnn⟩:∃ n,l.length=n:=⟨_,rfl⟩;have HN:=aH hnn;obtain ⟨RES,hres⟩:∃ r,nL no [] l=r:=⟨_,rfl⟩;have HR0:=aH (show RES=nL no (l.take 0) (l.drop 0) from by rw [<- hres];rfl);rw [hres];rw [hnn] at h4 hic ⊢;have hn4:(n:Int)<=4:=by omega
 have hn4d:decide ((4:Int) < (n:Int))=false:=aF (by omega);have hn4n:decide (4 < n)=false:=aF (by omega);have HB0:=aH (show Below w.heap.size w (w.alloc (.cells #[.string no,.slice io l.length ic,.bool wet,.int .i64 o,.string t,.int .u64 a,.int .u64 b,.int .u64 c,.int .u64 d,.slice ko kn kc,.slice ro rn rc] 35)) from bA _);have HX0:=aH (Own.fresh w 35 [.string no,.slice io l.length ic,.bool wet,.int .i64 o,.string t,.int .u64 a,.int .u64 b,.int .u64 c,.int .u64 d,.slice ko kn kc,.slice ro rn rc]);rw [hnn] at HB0 HX0;have HCAP:=aH hic;clear hl hnn hres hsz;go_enter Tryz.func35,Tryz.ntmps35;go_upto_region 1 with fail;obtain ⟨B,hB⟩:∃ B,w.heap.size=B:=⟨_,rfl⟩;generalize hw1:w.alloc (.cells #[.string no,.slice io n ic,.bool wet,.int .i64 o,.string t,.int .u64 a,.int .u64 b,.int .u64 c,.int .u64 d,.slice ko kn kc,.slice ro rn rc] 35)=w1 at *;clear hw1;have HBW:=aH hB;rw [hB] at HX0;try rw [hB]
 clear hB;have x1:=HX0.o.cell 1;have xl:=HX0.o.lt;go_wp2_with fail;clear x1 xl
 go_loopw [12] (fun b5 wr=>∃ k:Nat,b5=.int .i64 (k:Int)/\(k:Int)<=n/\aQ (RES=nL no (l.take k) (l.drop k))/\aQ (Below w.heap.size w wr)/\aQ (Own wr B 35 [.string no,.slice io n ic,.bool wet,.int .i64 o,.string t,.int .u64 a,.int .u64 b,.int .u64 c,.int .u64 d,.slice ko kn kc,.slice ro rn rc])) (fun b5 _=>n - (intOf b5).toNat)
 case atStart=>exact ⟨0,rfl,by omega,HR0,HB0,HX0⟩
 case round =>
  obtain ⟨k,rfl,hk,HR,HB,HX⟩:=hrel;clear HR0 HB0 HX0;by_cases hlt:(k:Int) < n
  ·
   have hlt':decide ((k:Int) < n)=true:=aT hlt;have hlt2:decide (k < n)=true:=aT (by omega);obtain ⟨x,hx⟩:∃ x,l[k]?=some x:=⟨_,aG (by have:=HN.o;omega)⟩
   have HD:=aH (show l.drop k=x :: l.drop (k + 1) from by
    obtain ⟨h1,h2⟩:=aS.1 hx
    rw [List.drop_eq_getElem_cons h1,h2])
   have HT:=aH (show l.take (k + 1)=l.take k ++ [x] from by
    obtain ⟨h1,h2⟩:=aS.1 hx
    rw [List.take_succ_eq_append_getElem h1,h2])
   have HLW:=aH (HL.o.below HB.o);obtain ⟨ib,ioff,hao,hb,c0⟩:=HLW.o k x hx;subst hao;obtain ⟨zw,hzw⟩:∃ z,bN x=z:=⟨_,rfl⟩;obtain ⟨zn,hzn⟩:∃ z,(x.toList == no.toList)=z:=⟨_,rfl⟩;obtain ⟨zh,hzh⟩:∃ z,hasB (l.take k) x=z:=⟨_,rfl⟩;have HST:=aH (show RES=(zw && !zn && !zh && nL no (l.take (k + 1)) (l.drop (k + 1))) from by rw [HR.o,HD.o,YH,HT.o,hzw,hzn,hzh]);have HWC:=aH (fun W=>sF x (by have:=HSZ.o x (aM hx);unfold maxLen;omega) zw hzw W)
   have HHC:=aH (show Calls Tryz.prog 65 #[.slice (some ⟨ib,ioff,none⟩) k ic,.string x] wr fun e w'=>e=.returned (.bool zh)/\w'=wr from by
    have q:=Tryz.slices_Contains_string ib ioff k ic l x wr (by have:=HN.o;omega) (by omega) (fun j hj=>by
     obtain ⟨y,hy⟩:∃ y,l[j]?=some y:=⟨_,aG hj⟩;obtain ⟨b2,off2,e2,-,c2⟩:=HLW.o j y hy;injection e2 with e2;injection e2 with e2 e3;subst e2 e3
     rw [c2,List.getD_eq_getElem?_getD,hy];rfl)
    rw [contS_has,hzh] at q
    exact q)
   have hw1:IntKind.i64.wrap ((k:Int) + 1)=(k:Int) + 1:=wI;have hkc:(k:Int)<=ic:=(by have:=HCAP.o;omega);have hkc2:k<=ic:=(by have:=HCAP.o;omega);have x0:=HX.o.cell 0;have x1:=HX.o.cell 1;have xl:=HX.o.lt;clear hx hzw hzh HR HD HT;go_wp2_with fail;refine (HWC.o _).mono ?_;rintro e w2 ⟨rfl,rfl⟩;have HE0:=aH (fun (h:zw=false\/zn=true\/zh=true)=>show RES=false from by rw [HST.o];rcases h with h | h | h <;> rw [h] <;> simp)
   cases zw with
   | false =>
    go_wp2;go_ret;rw [HE0.o (by simp)];exact ⟨rfl,HB.o⟩
   | true =>
    cases zn with
    | true =>
     go_wp2;go_ret;rw [HE0.o (by simp)];exact ⟨rfl,HB.o⟩
    | false =>
     go_wp2_with fail;refine HHC.o.mono ?_;rintro e w2 ⟨rfl,rfl⟩
     cases zh with
     | true =>
      go_wp2;go_ret;rw [HE0.o (by simp)];exact ⟨rfl,HB.o⟩
     | false =>
      have HE:=aH (show RES=nL no (l.take (k + 1)) (l.drop (k + 1)) from by rw [HST.o];rfl);go_wp2
      go_roundw
      case rel=>exact ⟨k + 1,by go_num,by omega,HE,HB,HX⟩
      case measure=>simp [intOf];omega
  · have hlt':decide ((k:Int) < n)=false:=aF hlt;have hlt2:decide (k < n)=false:=aF (by omega);have HE:=aH (show RES=true from by rw [HR.o,List.drop_eq_nil_of_le (by have:=HN.o;omega)];rfl);go_wp2;go_ret;rw [HE.o];exact ⟨rfl,HB.o⟩
end Go.Proofs.YthkdnehgamefiaaGreat
