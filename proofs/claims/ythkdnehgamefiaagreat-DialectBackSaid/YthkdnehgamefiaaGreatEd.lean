import Derived.Test.YthkdnehgamefiaaGreatRpW
import Derived.Test.YthkdnehgamefiaaGreatJy
namespace Go.Proofs.YthkdnehgamefiaaGreat
set_option linter.unusedVariables false
set_option maxHeartbeats 3200000
set_option maxRecDepth 1000000
set_option maxRecDepth 1000000
open Go.RowKit Go.Sort
theorem dcl_any (x:ByteArray × Ex) (ko:Option Addr) (kc:Nat) (b0:Nat) (s:ByteArray) (z:Bool) (hz:(x.1.toList == s.toList)=z) (w:World) (hs:Own w b0 9 [.string s]) :
  Calls Tryz.prog 95 #[.agg #[.string x.1,.int .i64 x.2.op,.string x.2.text,.int .u64 x.2.s0,.int .u64 x.2.s1,.int .u64 x.2.s2,.int .u64 x.2.s3,.slice ko x.2.kids.length kc],.pointer (some ⟨b0,0,none⟩)] w fun e w'=>e=.returned (.bool z)/\Below w.heap.size w w':=by
 have HB:=aH ((Below.refl w.heap.size w).alloc (Nat.le_refl _) (.cells #[.string x.1,.int .i64 x.2.op,.string x.2.text,.int .u64 x.2.s0,.int .u64 x.2.s1,.int .u64 x.2.s2,.int .u64 x.2.s3,.slice ko x.2.kids.length kc] 51));have HX:=aH (Own.fresh w 51 [.string x.1,.int .i64 x.2.op,.string x.2.text,.int .u64 x.2.s0,.int .u64 x.2.s1,.int .u64 x.2.s2,.int .u64 x.2.s3,.slice ko x.2.kids.length kc]);have HS:=aH (hs.on_alloc (.cells #[.string x.1,.int .i64 x.2.op,.string x.2.text,.int .u64 x.2.s0,.int .u64 x.2.s1,.int .u64 x.2.s2,.int .u64 x.2.s3,.slice ko x.2.kids.length kc] 51));clear hs;go_enter Tryz.func95,Tryz.ntmps95;go_upto_region 1 with fail;generalize w.alloc _=w1 at *;have x0:=HX.o.cell 0;have xl:=HX.o.lt;have s0:=HS.o.cell 0;have sl:=HS.o.lt;go_wp2;go_ret;exact ⟨rfl,HB.o⟩
theorem didx_any (XL:List (ByteArray × Ex)) (p:(ByteArray × Ex)->Bool) (b0:Nat) (mo:Option Addr) (mc:Nat) (s:ByteArray) (w:World) (hs:Own w b0 9 [.string s]) (hn:(XL.length:Int)<=1000000)
  (hX:∀ k x,XL[k]?=some x->∃ b off ko kc,mo=some ⟨b,off,none⟩/\b < w.heap.size/\w.cell? ⟨b,off + k * 8,none⟩=some (.string x.1)/\w.cell? ⟨b,off + k * 8 + 1,none⟩=some (.int .i64 x.2.op)/\w.cell? ⟨b,off + k * 8 + 2,none⟩=some (.string x.2.text)/\w.cell? ⟨b,off + k * 8 + 3,none⟩=some (.int .u64 x.2.s0)/\w.cell? ⟨b,off + k * 8 + 4,none⟩=some (.int .u64 x.2.s1)/\w.cell? ⟨b,off + k * 8 + 5,none⟩=some (.int .u64 x.2.s2)/\w.cell? ⟨b,off + k * 8 + 6,none⟩=some (.int .u64 x.2.s3)/\w.cell? ⟨b,off + k * 8 + 7,none⟩=some (.slice ko x.2.kids.length kc)) (hp:∀ x,p x=(x.1.toList == s.toList)) :
  Calls Tryz.prog 117 #[.slice mo XL.length mc,.func (Fn.func 95) #[] #[.pointer (some ⟨b0,0,none⟩)]] w fun e w'=>e=.returned (.int .i64 (sU p 0 XL))/\Below w.heap.size w w':=by
 have HX:=aH hX;have HS0:=aH hs;have HPP:=aH hp;obtain ⟨n,hnn⟩:∃ n,XL.length=n:=⟨_,rfl⟩;have HN:=aH hnn;rw [hnn] at hn ⊢;clear hX hs hp hnn;have HB0:=aH (Below.refl w.heap.size w);go_enter Tryz.func117,Tryz.ntmps117;go_wp2_with fail
 go_loopw [8] (fun v8 wr=>∃ k:Nat,v8=.int .i64 (k:Int)/\(k:Int)<=n/\aQ (sU p 0 XL=sU p k (XL.drop k))/\aQ (Below w.heap.size w wr)) (fun v8 _=>n - (intOf v8).toNat)
 case atStart=>exact ⟨0,rfl,by omega,aH (by rw [List.drop_zero]),HB0⟩
 case round =>
  obtain ⟨k,rfl,hk,HQ,HB⟩:=hrel;clear HB0;have HS:=aH (HS0.o.under HB.o HS0.o.lt);have s0:=HS.o.cell 0;have sl:=HS.o.lt;by_cases hlt:(k:Int) < n
  ·
   obtain ⟨x,hx⟩:∃ x,XL[k]?=some x:=⟨_,aG (by have:=HN.o;omega)⟩
   have HD:=aH (show XL.drop k=x :: XL.drop (k + 1) from by
    obtain ⟨h1,h2⟩:=aS.1 hx
    rw [List.drop_eq_getElem_cons h1,h2])
   obtain ⟨b,off,ko,kc,rfl,hb,c0,c1,c2,c3,c4,c5,c6,c7⟩:=HX.o k x hx;have hbw:b < wr.heap.size:=aL hb HB.o.size;have d0:=aC c0 HB.o;have d1:=aC c1 HB.o;have d2:=aC c2 HB.o;have d3:=aC c3 HB.o;have d4:=aC c4 HB.o;have d5:=aC c5 HB.o;have d6:=aC c6 HB.o;have d7:=aC c7 HB.o;have hw1:IntKind.i64.wrap ((k:Int) + 1)=(k:Int) + 1:=wI;obtain ⟨z,hz⟩:∃ z,(x.1.toList == s.toList)=z:=⟨_,rfl⟩;have HZ:=aH (show sU p 0 XL=if z=true then (k:Int) else sU p (k + 1) (XL.drop (k + 1)) from by rw [HQ.o,HD.o,<- hz,<- HPP.o x];rfl);have HCC:=aH (dcl_any x ko kc b0 s z hz wr HS.o);clear hx HD HQ hb c0 c1 c2 c3 c4 c5 c6 c7;go_wp2_with fail;refine HCC.o.mono ?_;rintro e w1 ⟨rfl,hb1⟩;have HB1:=aH (HB.o.trans (hb1.mono HB.o.size));clear hb1
   cases z
   ·
    go_wp2
    go_roundw
    case rel=>exact ⟨k + 1,by go_num,by omega,aH (HZ.o.trans (if_neg (by decide))),HB1⟩
    case measure=>simp [intOf];omega
   · have HE:=aH (HZ.o.trans (if_pos rfl));go_wp2;go_ret;exact ⟨eF HE.o.symm,HB1.o⟩
  · have HE:=aH (show sU p 0 XL=-1 from by rw [HQ.o,List.drop_eq_nil_of_le (by have:=HN.o;omega)];rfl);have hlt':decide ((k:Int) < n)=false:=aF hlt;go_wp2;go_ret;exact ⟨eF HE.o.symm,HB.o⟩
theorem idxF_has {α:Type} (p:α->Bool):∀ (l:List α) (k:Nat),decide (0<=sU p k l)=l.any p
 | [],k=>by simp [sU]
 | x :: r,k=>by
  cases h:p x with
  | true=>simp [sU,h]
  | false=>simp only [sU,h,List.any_cons,Bool.false_or];simpa using idxF_has p r (k + 1)
theorem tl_eq {s t:ByteArray} (h:s.toList=t.toList):s=t:=by rw [ByteArray.toList_eq,ByteArray.toList_eq] at h;obtain ⟨⟨x⟩⟩:=s;obtain ⟨⟨y⟩⟩:=t;simp at h;rw [h]
theorem contS_has (l:List ByteArray) (s:ByteArray):Lib.containsS l s=hasB l s:=by
 have h:Lib.containsS l s=true ↔ hasB l s=true:=by rw [Lib.containsS_iff];unfold hasB;rw [List.any_eq_true];exact ⟨fun h=>⟨s,h,by simp⟩,fun ⟨x,hx,e⟩=>by rw [<- tl_eq (beq_iff_eq.1 e)];exact hx⟩
 cases h1:Lib.containsS l s <;> cases h2:hasB l s <;> simp_all
theorem word_nz {x:ByteArray} (h:bN x=true):(x.toList == (⟨#[]⟩:ByteArray).toList)=false:=by
 cases hx:x.toList == (⟨#[]⟩:ByteArray).toList with
 | false=>rfl
 | true =>
  have e:x=⟨#[]⟩:=tl_eq (beq_iff_eq.1 hx);subst e;exact absurd h (by decide +kernel)
theorem sN.take {w:World} {D n:Nat} {ro:Option Addr} {l:List (ByteArray × Ex)} (h:sN w D n ro l) (i:Nat):sN w D n ro (l.take i):=fun k x hx=>h k x (by
 rw [List.getElem?_take] at hx;split at hx
 · exact hx
 · cases hx)
theorem dhas_any (XL:List (ByteArray × Ex)) (D n:Nat) (ro:Option Addr) (rc:Nat) (s:ByteArray) (hn:(XL.length:Int)<=1000000) (w:World) (hM:sN w D n ro XL) :
  Calls Tryz.prog 66 #[.slice ro XL.length rc,.string s] w fun e w'=>e=.returned (.bool (hasB (XL.map (·.1)) s))/\Below w.heap.size w w':=by
 have hb:Below w.heap.size w (w.alloc (.cells #[.string s] 9)):=bA _;have hM2:=hM.but (But.of_below (S:=fun _=>False) hb) (fun _ h=>h.elim)
 have HC:=aH (didx_any XL (fun r=>r.1.toList == s.toList) w.heap.size ro rc s (w.alloc (.cells #[.string s] 9)) (Own.fresh w 9 [.string s]) hn (fun k x hx=>by
  obtain ⟨b,off,ko,kc,e,hlt,_,c0,c1,c2,c3,c4,c5,c6,c7,_⟩:=hM2 k x hx
  exact ⟨b,off,ko,kc,e,hlt,c0,c1,c2,c3,c4,c5,c6,c7⟩) (fun x=>rfl))
 have HH:=aH (show decide (0<=sU (fun r:ByteArray × Ex=>r.1.toList == s.toList) 0 XL)=hasB (XL.map (·.1)) s from by rw [idxF_has];unfold hasB;rw [List.any_map];rfl);have HB:=aH hb;obtain ⟨q,hq⟩:∃ q,sU (fun r:ByteArray × Ex=>r.1.toList == s.toList) 0 XL=q:=⟨_,rfl⟩;obtain ⟨z,hz⟩:∃ z,hasB (XL.map (·.1)) s=z:=⟨_,rfl⟩;obtain ⟨m,hm⟩:∃ m,XL.length=m:=⟨_,rfl⟩;rw [hq] at HC HH;rw [hz] at HH;rw [hm] at HC;rw [hz,hm];clear hb hM hM2 hq hz hm
 have HK:=aH (show Calls Tryz.prog 94 #[.slice ro m rc,.func (Fn.func 95) #[] #[.pointer (some ⟨w.heap.size,0,none⟩)]] (w.alloc (.cells #[.string s] 9)) fun e w'=>e=.returned (.bool z)/\Below w.heap.size w w' from by
  obtain ⟨w1,hw1⟩:∃ w1,w.alloc (.cells #[.string s] 9)=w1:=⟨_,rfl⟩;rw [hw1] at HC HB ⊢;clear hw1;go_enter Tryz.func94,Tryz.ntmps94;go_wp2_with fail;refine HC.o.mono ?_;rintro e w2 ⟨rfl,hb2⟩;have HB2:=aH (HB.o.trans (hb2.mono HB.o.size));clear hb2;have hz:decide (0<=q)=z:=HH.o;go_wp2;go_ret
  exact ⟨rfl,HB2.o⟩)
 clear HC HB HH;go_enter Tryz.func66,Tryz.ntmps66;go_wp2_with fail;refine HK.o.mono ?_;rintro e w2 ⟨rfl,hb2⟩;have HB2:=aH hb2;clear hb2;go_wp2;go_ret;exact ⟨rfl,HB2.o⟩
theorem dimp_any (l:List ByteArray) (io:Option Addr) (ic:Nat) (no t:ByteArray) (wet:Bool) (o a b c d:Int) (ko:Option Addr) (kn kc:Nat) (ro:Option Addr) (rn rc:Nat) (h4:l.length<=4) (hic:l.length<=ic) (hsz:∀ x ∈ l,x.size<=100000) (w:World) (hl:gI w io l) :
  Calls Tryz.prog 35 #[.agg #[.string no,.slice io l.length ic,.bool wet,.int .i64 o,.string t,.int .u64 a,.int .u64 b,.int .u64 c,.int .u64 d,.slice ko kn kc,.slice ro rn rc]] w fun e w'=>e=.returned (.bool (nL no [] l))/\Below w.heap.size w w':=by
 have HL:=aH hl;have HSZ:=aH hsz;obtain ⟨n,hnn⟩:∃ n,l.length=n:=⟨_,rfl⟩;have HN:=aH hnn;obtain ⟨RES,hres⟩:∃ r,nL no [] l=r:=⟨_,rfl⟩;have HR0:=aH (show RES=nL no (l.take 0) (l.drop 0) from by rw [<- hres];rfl);rw [hres];rw [hnn] at h4 hic ⊢;have hn4:(n:Int)<=4:=by omega
 have hn4d:decide ((4:Int) < (n:Int))=false:=aF (by omega);have hn4n:decide (4 < n)=false:=aF (by omega);have HB0:=aH (show Below w.heap.size w (w.alloc (.cells #[.string no,.slice io l.length ic,.bool wet,.int .i64 o,.string t,.int .u64 a,.int .u64 b,.int .u64 c,.int .u64 d,.slice ko kn kc,.slice ro rn rc] 35)) from bA _);have HX0:=aH (Own.fresh w 35 [.string no,.slice io l.length ic,.bool wet,.int .i64 o,.string t,.int .u64 a,.int .u64 b,.int .u64 c,.int .u64 d,.slice ko kn kc,.slice ro rn rc]);rw [hnn] at HB0 HX0;have HCAP:=aH hic;clear hl hnn hres hsz;go_enter Tryz.func35,Tryz.ntmps35;go_upto_region 1 with fail;obtain ⟨B,hB⟩:∃ B,w.heap.size=B:=⟨_,rfl⟩;generalize hw1:w.alloc (.cells #[.string no,.slice io n ic,.bool wet,.int .i64 o,.string t,.int .u64 a,.int .u64 b,.int .u64 c,.int .u64 d,.slice ko kn kc,.slice ro rn rc] 35)=w1 at *;clear hw1;have HBW:=aH hB;rw [hB] at HX0;try rw [hB]
 clear hB;have x1:=HX0.o.cell 1;have xl:=HX0.o.lt;go_wp2_with fail;clear x1 xl
 go_loopw [12] (fun b5 wr=>∃ k:Nat,b5=.int .i64 (k:Int)/\(k:Int)<=n/\aQ (RES=nL no (l.take k) (l.drop k))/\aQ (Below w.heap.size w wr)/\aQ (Own wr B 35 [.string no,.slice io n ic,.bool wet,.int .i64 o,.string t,.int .u64 a,.int .u64 b,.int .u64 c,.int .u64 d,.slice ko kn kc,.slice ro rn rc])) (fun b5 _=>n - (intOf b5).toNat)
 case atStart=>exact ⟨0,rfl,by omega,HR0,HB0,HX0⟩
 case round =>
  obtain ⟨k,rfl,hk,HR,HB,HX⟩:=hrel;clear HR0 HB0 HX0;by_cases hlt:(k:Int) < n
  ·
   have hlt':decide ((k:Int) < n)=true:=aT hlt;have hlt2:decide (k < n)=true:=aT (by omega);obtain ⟨x,hx⟩:∃ x,l[k]?=some x:=⟨_,aG (by have:=HN.o;omega)⟩
   have HD:=aH (show l.drop k=x :: l.drop (k + 1) from by
    obtain ⟨h1,h2⟩:=aS.1 hx
    rw [List.drop_eq_getElem_cons h1,h2])
   have HT:=aH (show l.take (k + 1)=l.take k ++ [x] from by
    obtain ⟨h1,h2⟩:=aS.1 hx
    rw [List.take_succ_eq_append_getElem h1,h2])
   have HLW:=aH (HL.o.below HB.o);obtain ⟨ib,ioff,hao,hb,c0⟩:=HLW.o k x hx;subst hao;obtain ⟨zw,hzw⟩:∃ z,bN x=z:=⟨_,rfl⟩;obtain ⟨zn,hzn⟩:∃ z,(x.toList == no.toList)=z:=⟨_,rfl⟩;obtain ⟨zh,hzh⟩:∃ z,hasB (l.take k) x=z:=⟨_,rfl⟩;have HST:=aH (show RES=(zw && !zn && !zh && nL no (l.take (k + 1)) (l.drop (k + 1))) from by rw [HR.o,HD.o,YH,HT.o,hzw,hzn,hzh]);have HWC:=aH (fun W=>sF x (by have:=HSZ.o x (aM hx);unfold maxLen;omega) zw hzw W)
   have HHC:=aH (show Calls Tryz.prog 65 #[.slice (some ⟨ib,ioff,none⟩) k ic,.string x] wr fun e w'=>e=.returned (.bool zh)/\w'=wr from by
    have q:=Tryz.slices_Contains_string ib ioff k ic l x wr (by have:=HN.o;omega) (by omega) (fun j hj=>by
     obtain ⟨y,hy⟩:∃ y,l[j]?=some y:=⟨_,aG hj⟩;obtain ⟨b2,off2,e2,-,c2⟩:=HLW.o j y hy;injection e2 with e2;injection e2 with e2 e3;subst e2 e3
     rw [c2,List.getD_eq_getElem?_getD,hy];rfl)
    rw [contS_has,hzh] at q
    exact q)
   have hw1:IntKind.i64.wrap ((k:Int) + 1)=(k:Int) + 1:=wI;have hkc:(k:Int)<=ic:=(by have:=HCAP.o;omega);have hkc2:k<=ic:=(by have:=HCAP.o;omega);have x0:=HX.o.cell 0;have x1:=HX.o.cell 1;have xl:=HX.o.lt;clear hx hzw hzh HR HD HT;go_wp2_with fail;refine (HWC.o _).mono ?_;rintro e w2 ⟨rfl,rfl⟩;have HE0:=aH (fun (h:zw=false\/zn=true\/zh=true)=>show RES=false from by rw [HST.o];rcases h with h | h | h <;> rw [h] <;> simp)
   cases zw with
   | false =>
    go_wp2;go_ret;rw [HE0.o (by simp)];exact ⟨rfl,HB.o⟩
   | true =>
    cases zn with
    | true =>
     go_wp2;go_ret;rw [HE0.o (by simp)];exact ⟨rfl,HB.o⟩
    | false =>
     go_wp2_with fail;refine HHC.o.mono ?_;rintro e w2 ⟨rfl,rfl⟩
     cases zh with
     | true =>
      go_wp2;go_ret;rw [HE0.o (by simp)];exact ⟨rfl,HB.o⟩
     | false =>
      have HE:=aH (show RES=nL no (l.take (k + 1)) (l.drop (k + 1)) from by rw [HST.o];rfl);go_wp2
      go_roundw
      case rel=>exact ⟨k + 1,by go_num,by omega,HE,HB,HX⟩
      case measure=>simp [intOf];omega
  · have hlt':decide ((k:Int) < n)=false:=aF hlt;have hlt2:decide (k < n)=false:=aF (by omega);have HE:=aH (show RES=true from by rw [HR.o,List.drop_eq_nil_of_le (by have:=HN.o;omega)];rfl);go_wp2;go_ret;rw [HE.o];exact ⟨rfl,HB.o⟩
theorem rulB_cons (T:List ByteArray) (r:ByteArray × Ex) (rs:List (ByteArray × Ex)) (hw:bN r.1=true) :
  ((r :: rs).all (fun r=>dQ 53 r.2) && nL ⟨#[]⟩ T ((r :: rs).map (·.1)))=(!(hasB T r.1) && dQ 53 r.2 && (rs.all (fun r=>dQ 53 r.2) && nL ⟨#[]⟩ (T ++ [r.1]) (rs.map (·.1)))):=by
 rw [List.map_cons,List.all_cons,YH,hw,word_nz hw]
 cases hasB T r.1 <;> cases dQ 53 r.2 <;> simp
theorem rulB_gen (T:List ByteArray) (r:ByteArray × Ex) (rs:List (ByteArray × Ex)) :
  ((r :: rs).all (fun r=>dQ 53 r.2) && nL ⟨#[]⟩ T ((r :: rs).map (·.1)))=(bN r.1 && (!(hasB T r.1) && dQ 53 r.2 && (rs.all (fun r=>dQ 53 r.2) && nL ⟨#[]⟩ (T ++ [r.1]) (rs.map (·.1))))):=by
 cases hw:bN r.1 with
 | true=>rw [rulB_cons _ _ _ hw];rfl
 | false=>rw [List.map_cons,YH,hw];simp
theorem drule_few (l:List (ByteArray × Ex)) (D nn:Nat) (ro:Option Addr) (rc:Nat) (h24:l.length<=24) (hrc:l.length<=rc) (hsz:∀ r ∈ l,r.1.size<=100000) (hbo:∀ r ∈ l,Okx r.2) (w:World) (hR:sN w D nn ro l) (hmx:Mx w) :
  Calls Tryz.prog 36 #[.slice ro l.length rc] w fun e w'=>e=.returned (.bool (l.all (fun r=>dQ 53 r.2) && nL ⟨#[]⟩ [] (l.map (·.1))))/\Below w.heap.size w w':=by
 have HRU:=aH hR;have HWD:=aH hsz;have HBO:=aH hbo;have HMX:=aH hmx;obtain ⟨n,hnn⟩:∃ n,l.length=n:=⟨_,rfl⟩;have HN:=aH hnn;obtain ⟨RES,hres⟩:∃ r,(l.all (fun r=>dQ 53 r.2) && nL ⟨#[]⟩ [] (l.map (·.1)))=r:=⟨_,rfl⟩;have HR0:=aH (show RES=((l.drop 0).all (fun r=>dQ 53 r.2) && nL ⟨#[]⟩ ((l.take 0).map (·.1)) ((l.drop 0).map (·.1))) from by rw [<- hres];rfl);rw [hres];rw [hnn] at h24 hrc ⊢;have hn4:(n:Int)<=24:=by omega
 have hn4d:decide ((24:Int) < (n:Int))=false:=aF (by omega);have hn4n:decide (24 < n)=false:=aF (by omega);have HB0:=aH (Below.refl w.heap.size w);have HCAP:=aH hrc;clear hnn hres hR hsz hbo hmx;go_enter Tryz.func36,Tryz.ntmps36;go_wp2_with fail
 go_loopw [10] (fun b5 wr=>∃ k:Nat,b5=.int .i64 (k:Int)/\(k:Int)<=n/\aQ (RES=((l.drop k).all (fun r=>dQ 53 r.2) && nL ⟨#[]⟩ ((l.take k).map (·.1)) ((l.drop k).map (·.1))))/\aQ (Below w.heap.size w wr)) (fun b5 _=>n - (intOf b5).toNat)
 case atStart=>exact ⟨0,rfl,by omega,HR0,HB0⟩
 case round =>
  obtain ⟨k,rfl,hk,HR,HB⟩:=hrel;clear HR0 HB0;by_cases hlt:(k:Int) < n
  ·
   have hlt':decide ((k:Int) < n)=true:=aT hlt;have hlt2:decide (k < n)=true:=aT (by omega);obtain ⟨r,hr⟩:∃ r,l[k]?=some r:=⟨_,aG (by have:=HN.o;omega)⟩;obtain ⟨rb,roff,yo,yc,hro,hrb,_,d0,d1,d2,d3,d4,d5,d6,d7,hky⟩:=HRU.o k r hr;have hmem:=aM hr;have HFW:=aH (show Fw 53 r.2 from ⟨(HBO.o r hmem).2,(HBO.o r hmem).1⟩);have HKY:=aH (show aV w 53 yo r.2.kids from aV.fit HFW.o.1 hky.hask);have hsr:=HWD.o r hmem;obtain ⟨zw,hzw⟩:∃ z,bN r.1=z:=⟨_,rfl⟩
   have HT:=aH (show (l.take (k + 1)).map (·.1)=(l.take k).map (·.1) ++ [r.1] from by
    obtain ⟨h1,h2⟩:=aS.1 hr
    rw [List.take_succ_eq_append_getElem h1,h2,List.map_append];rfl)
   have HD:=aH (show l.drop k=r :: l.drop (k + 1) from by
    obtain ⟨h1,h2⟩:=aS.1 hr
    rw [List.drop_eq_getElem_cons h1,h2])
   obtain ⟨zh,hzh⟩:∃ z,hasB ((l.take k).map (·.1)) r.1=z:=⟨_,rfl⟩;obtain ⟨zr,hzr⟩:∃ z,dQ 53 r.2=z:=⟨_,rfl⟩;have HST:=aH (show RES=(zw && (!zh && zr && ((l.drop (k + 1)).all (fun r=>dQ 53 r.2) && nL ⟨#[]⟩ ((l.take (k + 1)).map (·.1)) ((l.drop (k + 1)).map (·.1))))) from by rw [HR.o,HD.o,rulB_gen,HT.o,hzh,hzr,hzw]);have e0:=aC d0 HB.o;have e1:=aC d1 HB.o;have e2:=aC d2 HB.o;have e3:=aC d3 HB.o;have e4:=aC d4 HB.o;have e5:=aC d5 HB.o;have e6:=aC d6 HB.o;have e7:=aC d7 HB.o;have hrb2:rb < wr.heap.size:=aL hrb HB.o.size;have HRO:=aH hro;subst hro;have HBX:=aH (show Below wr.heap.size wr (wr.alloc (.cells #[.string r.1,.int .i64 r.2.op,.string r.2.text,.int .u64 r.2.s0,.int .u64 r.2.s1,.int .u64 r.2.s2,.int .u64 r.2.s3,.slice yo r.2.kids.length yc] 51)) from bA _);have HX:=aH (Own.fresh wr 51 [.string r.1,.int .i64 r.2.op,.string r.2.text,.int .u64 r.2.s0,.int .u64 r.2.s1,.int .u64 r.2.s2,.int .u64 r.2.s3,.slice yo r.2.kids.length yc]);have hw1:IntKind.i64.wrap ((k:Int) + 1)=(k:Int) + 1:=wI;have hkc:(k:Int)<=rc:=(by have:=HCAP.o;omega);have hkc2:k<=rc:=(by have:=HCAP.o;omega);have HE0:=aH (fun (h:zw=false\/zh=true\/zr=false)=>show RES=false from by rw [HST.o];rcases h with h | h | h <;> rw [h] <;> simp);clear d0 d1 d2 d3 d4 d5 d6 d7 hky HR HD HT hrb hmem;go_upto_region 6 with fail;clear e0 e1 e2 e3 e4 e5 e6 e7 hrb2;obtain ⟨A,hA⟩:∃ A,wr.heap.size=A:=⟨_,rfl⟩;generalize hw2:wr.alloc (.cells #[.string r.1,.int .i64 r.2.op,.string r.2.text,.int .u64 r.2.s0,.int .u64 r.2.s1,.int .u64 r.2.s2,.int .u64 r.2.s3,.slice yo r.2.kids.length yc] 51)=w1 at *;clear hw2;rw [hA] at HX;try rw [hA]
   clear hA;have x0:=HX.o.cell 0;have x1:=HX.o.cell 1;have x2:=HX.o.cell 2;have x3:=HX.o.cell 3;have x4:=HX.o.cell 4;have x5:=HX.o.cell 5;have x6:=HX.o.cell 6;have x7:=HX.o.cell 7;have y0:=cell_regrown x0;have y1:=cell_regrown x1;have y2:=cell_regrown x2;have y3:=cell_regrown x3;have y4:=cell_regrown x4;have y5:=cell_regrown x5;have y6:=cell_regrown x6;have y7:=cell_regrown x7;have xl:=HX.o.lt;have HW1:=aH (fun dq os=>show Below w.heap.size w (grow (redrawn w1 dq) os) from HB.o.trans ((HBX.o.trans ((below_regrown w1 dq os).mono HBX.o.size)).mono HB.o.size));have CW:=aH (fun (dq:Nat) (os:Array Obj)=>show Calls Tryz.prog 34 #[.string r.1] (grow (redrawn w1 dq) os) fun e w'=>e=.returned (.bool zw)/\Below (grow (redrawn w1 dq) os).heap.size (grow (redrawn w1 dq) os) w' from (sF r.1 (by unfold maxLen;omega) zw hzw _).mono fun e w' h=>⟨h.1,h.2 ▸ Below.refl _ _⟩)
   have CH:=aH (fun (dq:Nat) (os:Array Obj)=>show Calls Tryz.prog 66 #[.slice (some ⟨rb,roff,none⟩) k rc,.string r.1] (grow (redrawn w1 dq) os) fun e w'=>e=.returned (.bool zh)/\Below (grow (redrawn w1 dq) os).heap.size (grow (redrawn w1 dq) os) w' from by
    have q:=dhas_any (l.take k) D nn (some ⟨rb,roff,none⟩) rc r.1 (by rw [List.length_take];have:=HN.o;omega) (grow (redrawn w1 dq) os) ((HRU.o.take k).but (But.of_below (S:=fun _=>False) (HW1.o dq os)) (fun _ h=>h.elim));rw [hzh,List.length_take,Nat.min_eq_left (by have:=HN.o;omega)] at q
    exact q)
   have CR:=aH (fun (dq:Nat) (os:Array Obj)=>show Calls Tryz.prog 32 #[.agg #[.int .i64 r.2.op,.string r.2.text,.int .u64 r.2.s0,.int .u64 r.2.s1,.int .u64 r.2.s2,.int .u64 r.2.s3,.slice yo r.2.kids.length yc]] (grow (redrawn w1 dq) os) fun e w'=>e=.returned (.bool zr)/\Below (grow (redrawn w1 dq) os).heap.size (grow (redrawn w1 dq) os) w' from by
    have q:=prightw_any 53 (by omega) r.2 yo yc (grow (redrawn w1 dq) os) HFW.o (aV.below (HW1.o dq os) HKY.o) (HMX.o.below (HW1.o dq os));rw [hzr] at q
    exact q)
   clear hr hzh hzr hzw hsr HW1
   cases zw with
   | false =>
    go_wp2_with fail;refine wp_region_quiet_below (by kernel_rfl) (by kernel_rfl) ?_
    repeat (go_big_quiet_step (first
     | (go_at_call 34;with_reducible exact Calls.regrown_of (CW.o _ _))
         | (go_at_call 66;with_reducible exact Calls.regrown_of (CH.o _ _))
         | (go_at_call 32;with_reducible exact Calls.regrown_of (CR.o _ _))))
    refine wpQuiet_nil ?_;intro _ hw';obtain ⟨⟨dq,osq⟩,hw''⟩:=hw';subst hw'';have HB2:=aH (HB.o.trans ((HBX.o.trans ((below_regrown w1 dq osq).mono HBX.o.size)).mono HB.o.size));clear x0 x1 x2 x3 x4 x5 x6 x7 y0 y1 y2 y3 y4 y5 y6 y7 xl;go_wp2;go_ret;rw [HE0.o (by simp)];exact ⟨rfl,HB2.o⟩
   | true =>
    cases zh with
    | true =>
     go_wp2_with fail;refine wp_region_quiet_below (by kernel_rfl) (by kernel_rfl) ?_
     repeat (go_big_quiet_step (first
      | (go_at_call 34;with_reducible exact Calls.regrown_of (CW.o _ _))
           | (go_at_call 66;with_reducible exact Calls.regrown_of (CH.o _ _))
           | (go_at_call 32;with_reducible exact Calls.regrown_of (CR.o _ _))))
     refine wpQuiet_nil ?_;intro _ hw';obtain ⟨⟨dq,osq⟩,hw''⟩:=hw';subst hw'';have HB2:=aH (HB.o.trans ((HBX.o.trans ((below_regrown w1 dq osq).mono HBX.o.size)).mono HB.o.size));clear x0 x1 x2 x3 x4 x5 x6 x7 y0 y1 y2 y3 y4 y5 y6 y7 xl;go_wp2;go_ret;rw [HE0.o (by simp)];exact ⟨rfl,HB2.o⟩
    | false =>
     cases zr with
     | false =>
      go_wp2_with fail;refine wp_region_quiet_below (by kernel_rfl) (by kernel_rfl) ?_
      repeat (go_big_quiet_step (first
       | (go_at_call 34;with_reducible exact Calls.regrown_of (CW.o _ _))
             | (go_at_call 66;with_reducible exact Calls.regrown_of (CH.o _ _))
             | (go_at_call 32;with_reducible exact Calls.regrown_of (CR.o _ _))))
      refine wpQuiet_nil ?_;intro _ hw';obtain ⟨⟨dq,osq⟩,hw''⟩:=hw';subst hw'';have HB2:=aH (HB.o.trans ((HBX.o.trans ((below_regrown w1 dq osq).mono HBX.o.size)).mono HB.o.size));clear x0 x1 x2 x3 x4 x5 x6 x7 y0 y1 y2 y3 y4 y5 y6 y7 xl;go_wp2;go_ret;rw [HE0.o (by simp)];exact ⟨rfl,HB2.o⟩
     | true =>
      go_wp2_with fail;refine wp_region_quiet_below (by kernel_rfl) (by kernel_rfl) ?_
      repeat (go_big_quiet_step (first
       | (go_at_call 34;with_reducible exact Calls.regrown_of (CW.o _ _))
             | (go_at_call 66;with_reducible exact Calls.regrown_of (CH.o _ _))
             | (go_at_call 32;with_reducible exact Calls.regrown_of (CR.o _ _))))
      refine wpQuiet_nil ?_;intro _ hw';obtain ⟨⟨dq,osq⟩,hw''⟩:=hw';subst hw'';have HB2:=aH (HB.o.trans ((HBX.o.trans ((below_regrown w1 dq osq).mono HBX.o.size)).mono HB.o.size));clear x0 x1 x2 x3 x4 x5 x6 x7 y0 y1 y2 y3 y4 y5 y6 y7 xl;have HE:=aH (show RES=((l.drop (k + 1)).all (fun r=>dQ 53 r.2) && nL ⟨#[]⟩ ((l.take (k + 1)).map (·.1)) ((l.drop (k + 1)).map (·.1))) from by rw [HST.o];simp);go_wp2
      go_roundw
      case rel=>exact ⟨k + 1,by go_num,by omega,HE,HB2⟩
      case measure=>simp [intOf];omega
  · have hlt':decide ((k:Int) < n)=false:=aF hlt;have hlt2:decide (k < n)=false:=aF (by omega);have HE:=aH (show RES=true from by rw [HR.o,List.drop_eq_nil_of_le (by have:=HN.o;omega)];rfl);go_wp2;go_ret;rw [HE.o];exact ⟨rfl,HB.o⟩
theorem drule_gen (l:List (ByteArray × Ex)) (D nn:Nat) (ro:Option Addr) (rc:Nat) (hn:(l.length:Int)<=1000) (hrc:l.length<=rc) (hsz:∀ r ∈ l,r.1.size<=100000) (hbo:∀ r ∈ l,Okx r.2) (w:World) (hR:sN w D nn ro l) (hmx:Mx w) :
  Calls Tryz.prog 36 #[.slice ro l.length rc] w fun e w'=>e=.returned (.bool (decide (l.length<=24) && (l.all (fun r=>dQ 53 r.2) && nL ⟨#[]⟩ [] (l.map (·.1)))))/\Below w.heap.size w w':=by
 by_cases h24:l.length<=24
 · rw [aT h24,Bool.true_and];exact drule_few l D nn ro rc h24 hrc hsz hbo w hR hmx
 · rw [aF h24,Bool.false_and];have HB0:=aH (Below.refl w.heap.size w);obtain ⟨n,hnn⟩:∃ n,l.length=n:=⟨_,rfl⟩;rw [hnn] at h24 ⊢;have g1:decide ((24:Int) < (n:Int))=true:=aT (by omega);have g2:decide (24 < n)=true:=aT (by omega);clear hnn hR hsz hbo hmx;go_enter Tryz.func36,Tryz.ntmps36;go_wp2;go_ret;exact ⟨rfl,HB0.o⟩
theorem dimp_gen (l:List ByteArray) (io:Option Addr) (ic:Nat) (no t:ByteArray) (wet:Bool) (o a b c d:Int) (ko:Option Addr) (kn kc:Nat) (ro:Option Addr) (rn rc:Nat) (hn:(l.length:Int)<=1000) (hic:l.length<=ic) (hsz:∀ x ∈ l,x.size<=100000) (w:World) (hl:gI w io l) :
  Calls Tryz.prog 35 #[.agg #[.string no,.slice io l.length ic,.bool wet,.int .i64 o,.string t,.int .u64 a,.int .u64 b,.int .u64 c,.int .u64 d,.slice ko kn kc,.slice ro rn rc]] w fun e w'=>e=.returned (.bool (decide (l.length<=4) && nL no [] l))/\Below w.heap.size w w':=by
 by_cases h4:l.length<=4
 · rw [aT h4,Bool.true_and];exact dimp_any l io ic no t wet o a b c d ko kn kc ro rn rc h4 hic hsz w hl
 ·
  rw [aF h4,Bool.false_and];obtain ⟨n,hnn⟩:∃ n,l.length=n:=⟨_,rfl⟩;rw [hnn] at h4 ⊢;have g1:decide ((4:Int) < (n:Int))=true:=aT (by omega);have g2:decide (4 < n)=true:=aT (by omega);have HB1:=aH (show Below w.heap.size w (w.alloc (.cells #[.string no,.slice io n ic,.bool wet,.int .i64 o,.string t,.int .u64 a,.int .u64 b,.int .u64 c,.int .u64 d,.slice ko kn kc,.slice ro rn rc] 35)) from bA _);have HM1:=aH (Own.fresh w 35 [.string no,.slice io n ic,.bool wet,.int .i64 o,.string t,.int .u64 a,.int .u64 b,.int .u64 c,.int .u64 d,.slice ko kn kc,.slice ro rn rc]);clear hl hsz hnn;obtain ⟨B,hB⟩:∃ B,w.heap.size=B:=⟨_,rfl⟩;have HBB:=aH hB;rw [hB] at HM1;go_enter Tryz.func35,Tryz.ntmps35;go_upto_region 1 with fail;generalize w.alloc _=w1 at *;try rw [hB]
  clear hB;obtain ⟨m0,m1,m2,m3,m4,m5,m6,m7,m8,m9,mA⟩:=HM1.o.elev;have ml:=HM1.o.lt;go_wp2;go_ret;exact ⟨rfl,HB1.o⟩
def rgtG (m:Md) (zs:Bool):Bool:=(if m.wet then dQ 53 m.wa else zs) && (bN m.nm && (decide (m.im.length<=4) && nL m.nm [] m.im) && (decide (m.ru.length<=24) && (m.ru.all (fun r=>dQ 53 r.2) && nL ⟨#[]⟩ [] (m.ru.map (·.1)))))
theorem dright_gen (m:Md) (zs:Bool) (D n:Nat) (io:Option Addr) (ic:Nat) (ko:Option Addr) (kc:Nat) (ro:Option Addr) (rc:Nat) (hni:(m.im.length:Int)<=1000) (hnr:(m.ru.length:Int)<=1000) (hic:m.im.length<=ic) (hrc:m.ru.length<=rc) (hsn:m.nm.size<=100000) (hsi:∀ x ∈ m.im,x.size<=100000) (hsr:∀ r ∈ m.ru,r.1.size<=100000) (hwa:Okx m.wa) (hbo:∀ r ∈ m.ru,Okx r.2)
  (w:World) (hN:gI w io m.im) (hK:aV w 53 ko m.wa.kids) (hR:sN w D n ro m.ru) (hmx:Mx w)
  (hzs:∀ W,Below w.heap.size w W->Calls Tryz.prog 33 #[exv m.wa ko kc,.agg #[.int .i64 0,.string ⟨#[]⟩,.int .u64 0,.int .u64 0,.int .u64 0,.int .u64 0,.slice none 0 0]] W fun e w'=>e=.returned (.bool zs)/\Below W.heap.size W w') :
  Calls Tryz.prog 12 #[.agg #[.string m.nm,.slice io m.im.length ic,.bool m.wet,.int .i64 m.wa.op,.string m.wa.text,.int .u64 m.wa.s0,.int .u64 m.wa.s1,.int .u64 m.wa.s2,.int .u64 m.wa.s3,.slice ko m.wa.kids.length kc,.slice ro m.ru.length rc]] w fun e w'=>e=.returned (.bool (rgtG m zs))/\Below w.heap.size w w':=by
 obtain ⟨nm,im,wet,wa,ru⟩:=m;simp only at hN hK hR hni hnr hic hrc hsn hsi hsr hwa hbo hzs ⊢;have HWA:=aH hwa;have HIM:=aH (fun W (hW:Below w.heap.size w W)=>dimp_gen im io ic nm wa.text wet wa.op wa.s0 wa.s1 wa.s2 wa.s3 ko wa.kids.length kc ro ru.length rc hni hic hsi W (hN.below hW));have HRL:=aH (fun W (hW:Below w.heap.size w W)=>drule_gen ru D n ro rc hnr hrc hsr hbo W (hR.but (But.of_below (S:=fun _=>False) hW) (fun _ h=>h.elim)) (hmx.below hW));have HK0:=aH hK;have HMX:=aH hmx;obtain ⟨zw,hzw⟩:∃ z,bN nm=z:=⟨_,rfl⟩;have HWD:=aH (fun W=>sF nm (by unfold maxLen;omega) zw hzw W);obtain ⟨za,hza⟩:∃ z,(decide (im.length<=4) && nL nm [] im)=z:=⟨_,rfl⟩;obtain ⟨zu,hzu⟩:∃ z,(decide (ru.length<=24) && (ru.all (fun r=>dQ 53 r.2) && nL ⟨#[]⟩ [] (ru.map (·.1))))=z:=⟨_,rfl⟩;have HQ0:=aH (show rgtG ⟨nm,im,wet,wa,ru⟩ zs=((if wet then dQ 53 wa else zs) && (zw && za && zu)) from by unfold rgtG;rw [hza,hzu,hzw]);generalize rgtG ⟨nm,im,wet,wa,ru⟩ zs=RES at *;rw [hza] at HIM;rw [hzu] at HRL;have HZS:=aH hzs;obtain ⟨ni,hni'⟩:∃ z,im.length=z:=⟨_,rfl⟩;obtain ⟨nr,hnr'⟩:∃ z,ru.length=z:=⟨_,rfl⟩;rw [hni',hnr'] at HIM;rw [hnr'] at HRL;rw [hni',hnr'];clear hN hK hR hni hnr hic hrc hsn hsi hsr hwa hbo hzs hza hzu hzw hmx hni' hnr'
 cases wet with
 | true =>
  have HRT:=aH (fun W (hW:Below w.heap.size w W)=>show Calls Tryz.prog 32 #[.agg #[.int .i64 wa.op,.string wa.text,.int .u64 wa.s0,.int .u64 wa.s1,.int .u64 wa.s2,.int .u64 wa.s3,.slice ko wa.kids.length kc]] W fun e w'=>e=.returned (.bool (dQ 53 wa))/\Below W.heap.size W w' from prightw_any 53 (by omega) wa ko kc W ⟨HWA.o.2,HWA.o.1⟩ (aV.below hW HK0.o) (HMX.o.below hW));obtain ⟨zr,hzr⟩:∃ z,dQ 53 wa=z:=⟨_,rfl⟩;rw [hzr] at HRT;have HQ1:=aH (show RES=(zr && (zw && za && zu)) from by rw [HQ0.o,<- hzr];rfl);clear hzr HQ0 HZS;have HB1:=aH (show Below w.heap.size w (w.alloc (.cells #[.string nm,.slice io ni ic,.bool true,.int .i64 wa.op,.string wa.text,.int .u64 wa.s0,.int .u64 wa.s1,.int .u64 wa.s2,.int .u64 wa.s3,.slice ko wa.kids.length kc,.slice ro nr rc] 35)) from bA _);have HM1:=aH (Own.fresh w 35 [.string nm,.slice io ni ic,.bool true,.int .i64 wa.op,.string wa.text,.int .u64 wa.s0,.int .u64 wa.s1,.int .u64 wa.s2,.int .u64 wa.s3,.slice ko wa.kids.length kc,.slice ro nr rc]);obtain ⟨B,hB⟩:∃ B,w.heap.size=B:=⟨_,rfl⟩;rw [hB] at HM1;go_enter Tryz.func12,Tryz.ntmps12;go_upto_region 1 with fail;generalize w.alloc (.cells #[.string nm,.slice io ni ic,.bool true,.int .i64 wa.op,.string wa.text,.int .u64 wa.s0,.int .u64 wa.s1,.int .u64 wa.s2,.int .u64 wa.s3,.slice ko wa.kids.length kc,.slice ro nr rc] 35)=w1 at *;try rw [hB]
  clear hB;obtain ⟨m0,m1,m2,m3,m4,m5,m6,m7,m8,m9,mA⟩:=HM1.o.elev;have ml:=HM1.o.lt;go_wp2_with fail;refine (HRT.o _ HB1.o).mono ?_;rintro e w2 ⟨rfl,hb2⟩;have HB2:=aH (HB1.o.trans (hb2.mono HB1.o.size));have HM2:=aH (HM1.o.under hb2 HM1.o.lt);clear hb2 m0 m1 m2 m3 m4 m5 m6 m7 m8 m9 mA ml HB1 HM1;obtain ⟨m0,m1,m2,m3,m4,m5,m6,m7,m8,m9,mA⟩:=HM2.o.elev;have ml:=HM2.o.lt
  cases zr with
  | false =>
   have HE:=aH (show RES=false from by rw [HQ1.o];simp);go_wp2;go_ret;rw [HE.o];exact ⟨rfl,HB2.o⟩
  | true =>
   have HQ:=aH (show RES=(zw && za && zu) from by rw [HQ1.o];simp);go_wp2_with fail;refine (HWD.o _).mono ?_;rintro e w3 ⟨rfl,rfl⟩
   cases zw with
   | false =>
    have HE:=aH (show RES=false from by rw [HQ.o];simp);go_wp2;go_ret;rw [HE.o];exact ⟨rfl,HB2.o⟩
   | true =>
    go_wp2_with fail;refine (HIM.o _ HB2.o).mono ?_;rintro e w3 ⟨rfl,hb3⟩;have HB3:=aH (HB2.o.trans (hb3.mono HB2.o.size));have HM3:=aH (HM2.o.under hb3 HM2.o.lt);clear hb3 m0 m1 m2 m3 m4 m5 m6 m7 m8 m9 mA ml HB2 HM2;obtain ⟨m0,m1,m2,m3,m4,m5,m6,m7,m8,m9,mA⟩:=HM3.o.elev;have ml:=HM3.o.lt
    cases za with
    | false =>
     have HE:=aH (show RES=false from by rw [HQ.o];simp);go_wp2;go_ret;rw [HE.o];exact ⟨rfl,HB3.o⟩
    | true =>
     have HE:=aH (show RES=zu from by rw [HQ.o];simp);go_wp2_with fail;refine (HRL.o _ HB3.o).mono ?_;rintro e w4 ⟨rfl,hb4⟩;have HB4:=aH (HB3.o.trans (hb4.mono HB3.o.size));clear hb4;go_wp2;go_ret;rw [HE.o];exact ⟨rfl,HB4.o⟩
 | false =>
  have HZ:=aH (fun W (hW:Below w.heap.size w W)=>show Calls Tryz.prog 33 #[.agg #[.int .i64 wa.op,.string wa.text,.int .u64 wa.s0,.int .u64 wa.s1,.int .u64 wa.s2,.int .u64 wa.s3,.slice ko wa.kids.length kc],.agg #[.int .i64 0,.string ⟨#[]⟩,.int .u64 0,.int .u64 0,.int .u64 0,.int .u64 0,.slice none 0 0]] W fun e w'=>e=.returned (.bool zs)/\Below W.heap.size W w' from HZS.o W hW);have HQ1:=aH (show RES=(zs && (zw && za && zu)) from by rw [HQ0.o];rfl);clear HQ0 HZS;have HB1:=aH (show Below w.heap.size w (w.alloc (.cells #[.string nm,.slice io ni ic,.bool false,.int .i64 wa.op,.string wa.text,.int .u64 wa.s0,.int .u64 wa.s1,.int .u64 wa.s2,.int .u64 wa.s3,.slice ko wa.kids.length kc,.slice ro nr rc] 35)) from bA _);have HM1:=aH (Own.fresh w 35 [.string nm,.slice io ni ic,.bool false,.int .i64 wa.op,.string wa.text,.int .u64 wa.s0,.int .u64 wa.s1,.int .u64 wa.s2,.int .u64 wa.s3,.slice ko wa.kids.length kc,.slice ro nr rc]);obtain ⟨B,hB⟩:∃ B,w.heap.size=B:=⟨_,rfl⟩;rw [hB] at HM1;go_enter Tryz.func12,Tryz.ntmps12;go_upto_region 1 with fail;generalize w.alloc (.cells #[.string nm,.slice io ni ic,.bool false,.int .i64 wa.op,.string wa.text,.int .u64 wa.s0,.int .u64 wa.s1,.int .u64 wa.s2,.int .u64 wa.s3,.slice ko wa.kids.length kc,.slice ro nr rc] 35)=w1 at *;try rw [hB]
  clear hB;obtain ⟨m0,m1,m2,m3,m4,m5,m6,m7,m8,m9,mA⟩:=HM1.o.elev;have ml:=HM1.o.lt;go_wp2_with fail;refine (HZ.o _ HB1.o).mono ?_;rintro e w2 ⟨rfl,hb2⟩;have HB2:=aH (HB1.o.trans (hb2.mono HB1.o.size));have HM2:=aH (HM1.o.under hb2 HM1.o.lt);clear hb2 m0 m1 m2 m3 m4 m5 m6 m7 m8 m9 mA ml HB1 HM1;obtain ⟨m0,m1,m2,m3,m4,m5,m6,m7,m8,m9,mA⟩:=HM2.o.elev;have ml:=HM2.o.lt
  cases zs with
  | false =>
   have HE:=aH (show RES=false from by rw [HQ1.o];simp);go_wp2;go_ret;rw [HE.o];exact ⟨rfl,HB2.o⟩
  | true =>
   have HQ:=aH (show RES=(zw && za && zu) from by rw [HQ1.o];simp);go_wp2_with fail;refine (HWD.o _).mono ?_;rintro e w3 ⟨rfl,rfl⟩
   cases zw with
   | false =>
    have HE:=aH (show RES=false from by rw [HQ.o];simp);go_wp2;go_ret;rw [HE.o];exact ⟨rfl,HB2.o⟩
   | true =>
    go_wp2_with fail;refine (HIM.o _ HB2.o).mono ?_;rintro e w3 ⟨rfl,hb3⟩;have HB3:=aH (HB2.o.trans (hb3.mono HB2.o.size));have HM3:=aH (HM2.o.under hb3 HM2.o.lt);clear hb3 m0 m1 m2 m3 m4 m5 m6 m7 m8 m9 mA ml HB2 HM2;obtain ⟨m0,m1,m2,m3,m4,m5,m6,m7,m8,m9,mA⟩:=HM3.o.elev;have ml:=HM3.o.lt
    cases za with
    | false =>
     have HE:=aH (show RES=false from by rw [HQ.o];simp);go_wp2;go_ret;rw [HE.o];exact ⟨rfl,HB3.o⟩
    | true =>
     have HE:=aH (show RES=zu from by rw [HQ.o];simp);go_wp2_with fail;refine (HRL.o _ HB3.o).mono ?_;rintro e w4 ⟨rfl,hb4⟩;have HB4:=aH (HB3.o.trans (hb4.mono HB3.o.size));clear hb4;go_wp2;go_ret;rw [HE.o];exact ⟨rfl,HB4.o⟩
end Go.Proofs.YthkdnehgamefiaaGreat
