import Derived.Test.YthkdnehgamefiaaGreatHz
import Derived.Test.YthkdnehgamefiaaGreatShelz
import Derived.Lib.IndexMore
import Derived.ShutString
import Derived.Lib.IndexBytes
import Derived.Deep.Cut
namespace Go.Proofs.YthkdnehgamefiaaGreat
set_option linter.unusedVariables false
set_option maxHeartbeats 3200000
set_option maxRecDepth 1000000
open Go.RowKit Go.Sort
def sU {α:Type} (p:α->Bool):Nat->List α->Int
 | _,[]=>-1
 | k,x :: r=>if p x=true then (k:Int) else sU p (k + 1) r
def cB (l:List Md) (s:ByteArray):Int:=sU (fun m=>m.nm.toList == s.toList) 0 l
def eU (m:Md) (s:ByteArray):Int:=sU (fun r=>r.1.toList == s.toList) 0 m.ru
theorem B4O (x:Md) (io:Option Addr) (ic:Nat) (ko:Option Addr) (kc:Nat) (ro:Option Addr) (rc:Nat) (b0:Nat) (s:ByteArray) (z:Bool) (hz:(x.nm.toList == s.toList)=z) (w:World) (hs:Own w b0 9 [.string s]) :
  Calls Tryz.prog 84 #[.agg #[.string x.nm,.slice io x.im.length ic,.bool x.wet,.int .i64 x.wa.op,.string x.wa.text,.int .u64 x.wa.s0,.int .u64 x.wa.s1,.int .u64 x.wa.s2,.int .u64 x.wa.s3,.slice ko x.wa.kids.length kc,.slice ro x.ru.length rc],.pointer (some ⟨b0,0,none⟩)] w fun e w'=>e=.returned (.bool z)/\Below w.heap.size w w':=by
 have HB:=aH ((Below.refl w.heap.size w).alloc (Nat.le_refl _) (.cells #[.string x.nm,.slice io x.im.length ic,.bool x.wet,.int .i64 x.wa.op,.string x.wa.text,.int .u64 x.wa.s0,.int .u64 x.wa.s1,.int .u64 x.wa.s2,.int .u64 x.wa.s3,.slice ko x.wa.kids.length kc,.slice ro x.ru.length rc] 35));have HX:=aH (Own.fresh w 35 [.string x.nm,.slice io x.im.length ic,.bool x.wet,.int .i64 x.wa.op,.string x.wa.text,.int .u64 x.wa.s0,.int .u64 x.wa.s1,.int .u64 x.wa.s2,.int .u64 x.wa.s3,.slice ko x.wa.kids.length kc,.slice ro x.ru.length rc]);have HS:=aH (hs.on_alloc (.cells #[.string x.nm,.slice io x.im.length ic,.bool x.wet,.int .i64 x.wa.op,.string x.wa.text,.int .u64 x.wa.s0,.int .u64 x.wa.s1,.int .u64 x.wa.s2,.int .u64 x.wa.s3,.slice ko x.wa.kids.length kc,.slice ro x.ru.length rc] 35));clear hs;go_enter Tryz.func84,Tryz.ntmps84;go_upto_region 1 with fail;generalize w.alloc _=w1 at *;have x0:=HX.o.cell 0;have xl:=HX.o.lt;have s0:=HS.o.cell 0;have sl:=HS.o.lt;go_wp2;go_ret;exact ⟨rfl,HB.o⟩
theorem B4P (x:ByteArray × Ex) (ko:Option Addr) (kc:Nat) (b0:Nat) (s:ByteArray) (z:Bool) (hz:(x.1.toList == s.toList)=z) (w:World) (hs:Own w b0 9 [.string s]) :
  Calls Tryz.prog 118 #[.agg #[.string x.1,.int .i64 x.2.op,.string x.2.text,.int .u64 x.2.s0,.int .u64 x.2.s1,.int .u64 x.2.s2,.int .u64 x.2.s3,.slice ko x.2.kids.length kc],.pointer (some ⟨b0,0,none⟩)] w fun e w'=>e=.returned (.bool z)/\Below w.heap.size w w':=by
 have HB:=aH ((Below.refl w.heap.size w).alloc (Nat.le_refl _) (.cells #[.string x.1,.int .i64 x.2.op,.string x.2.text,.int .u64 x.2.s0,.int .u64 x.2.s1,.int .u64 x.2.s2,.int .u64 x.2.s3,.slice ko x.2.kids.length kc] 51));have HX:=aH (Own.fresh w 51 [.string x.1,.int .i64 x.2.op,.string x.2.text,.int .u64 x.2.s0,.int .u64 x.2.s1,.int .u64 x.2.s2,.int .u64 x.2.s3,.slice ko x.2.kids.length kc]);have HS:=aH (hs.on_alloc (.cells #[.string x.1,.int .i64 x.2.op,.string x.2.text,.int .u64 x.2.s0,.int .u64 x.2.s1,.int .u64 x.2.s2,.int .u64 x.2.s3,.slice ko x.2.kids.length kc] 51));clear hs;go_enter Tryz.func118,Tryz.ntmps118;go_upto_region 1 with fail;generalize w.alloc _=w1 at *;have x0:=HX.o.cell 0;have xl:=HX.o.lt;have s0:=HS.o.cell 0;have sl:=HS.o.lt;go_wp2;go_ret;exact ⟨rfl,HB.o⟩
theorem B0N (XL:List Md) (p:Md->Bool) (b0:Nat) (mo:Option Addr) (mc:Nat) (s:ByteArray) (w:World) (hs:Own w b0 9 [.string s]) (hn:(XL.length:Int)<=1000000)
  (hX:∀ k x,XL[k]?=some x->∃ b off io ic ko kc ro rc,mo=some ⟨b,off,none⟩/\b < w.heap.size/\w.cell? ⟨b,off + k * 11,none⟩=some (.string x.nm)/\w.cell? ⟨b,off + k * 11 + 1,none⟩=some (.slice io x.im.length ic)/\w.cell? ⟨b,off + k * 11 + 2,none⟩=some (.bool x.wet)/\w.cell? ⟨b,off + k * 11 + 3,none⟩=some (.int .i64 x.wa.op)/\w.cell? ⟨b,off + k * 11 + 4,none⟩=some (.string x.wa.text)/\w.cell? ⟨b,off + k * 11 + 5,none⟩=some (.int .u64 x.wa.s0)/\w.cell? ⟨b,off + k * 11 + 6,none⟩=some (.int .u64 x.wa.s1)/\w.cell? ⟨b,off + k * 11 + 7,none⟩=some (.int .u64 x.wa.s2)/\w.cell? ⟨b,off + k * 11 + 8,none⟩=some (.int .u64 x.wa.s3)/\w.cell? ⟨b,off + k * 11 + 9,none⟩=some (.slice ko x.wa.kids.length kc)/\w.cell? ⟨b,off + k * 11 + 10,none⟩=some (.slice ro x.ru.length rc)) (hp:∀ x,p x=(x.nm.toList == s.toList)) :
  Calls Tryz.prog 83 #[.slice mo XL.length mc,.func (Fn.func 84) #[] #[.pointer (some ⟨b0,0,none⟩)]] w fun e w'=>e=.returned (.int .i64 (sU p 0 XL))/\Below w.heap.size w w':=by
 have HX:=aH hX;have HS0:=aH hs;have HPP:=aH hp;obtain ⟨n,hnn⟩:∃ n,XL.length=n:=⟨_,rfl⟩;have HN:=aH hnn;rw [hnn] at hn ⊢;clear hX hs hp hnn;have HB0:=aH (Below.refl w.heap.size w);go_enter Tryz.func83,Tryz.ntmps83;go_wp2_with fail
 go_loopw [8] (fun v8 wr=>∃ k:Nat,v8=.int .i64 (k:Int)/\(k:Int)<=n/\aQ (sU p 0 XL=sU p k (XL.drop k))/\aQ (Below w.heap.size w wr)) (fun v8 _=>n - (intOf v8).toNat)
 case atStart=>exact ⟨0,rfl,by omega,aH (by rw [List.drop_zero]),HB0⟩
 case round =>
  obtain ⟨k,rfl,hk,HQ,HB⟩:=hrel;clear HB0;have HS:=aH (HS0.o.under HB.o HS0.o.lt);have s0:=HS.o.cell 0;have sl:=HS.o.lt;by_cases hlt:(k:Int) < n
  ·
   obtain ⟨x,hx⟩:∃ x,XL[k]?=some x:=⟨_,aG (by have:=HN.o;omega)⟩
   have HD:=aH (show XL.drop k=x :: XL.drop (k + 1) from by
    obtain ⟨h1,h2⟩:=aS.1 hx
    rw [List.drop_eq_getElem_cons h1,h2])
   obtain ⟨b,off,io,ic,ko,kc,ro,rc,rfl,hb,c0,c1,c2,c3,c4,c5,c6,c7,c8,c9,c10⟩:=HX.o k x hx;have hbw:b < wr.heap.size:=aL hb HB.o.size;have d0:=aC c0 HB.o;have d1:=aC c1 HB.o;have d2:=aC c2 HB.o;have d3:=aC c3 HB.o;have d4:=aC c4 HB.o;have d5:=aC c5 HB.o;have d6:=aC c6 HB.o;have d7:=aC c7 HB.o;have d8:=aC c8 HB.o;have d9:=aC c9 HB.o;have d10:=aC c10 HB.o;have hw1:IntKind.i64.wrap ((k:Int) + 1)=(k:Int) + 1:=wI;obtain ⟨z,hz⟩:∃ z,(x.nm.toList == s.toList)=z:=⟨_,rfl⟩;have HZ:=aH (show sU p 0 XL=if z=true then (k:Int) else sU p (k + 1) (XL.drop (k + 1)) from by rw [HQ.o,HD.o,<- hz,<- HPP.o x];rfl);have HCC:=aH (B4O x io ic ko kc ro rc b0 s z hz wr HS.o);clear hx HD HQ hb c0 c1 c2 c3 c4 c5 c6 c7 c8 c9 c10;go_wp2_with fail;refine HCC.o.mono ?_;rintro e w1 ⟨rfl,hb1⟩;have HB1:=aH (HB.o.trans (hb1.mono HB.o.size));clear hb1
   cases z
   ·
    go_wp2
    go_roundw
    case rel=>exact ⟨k + 1,by go_num,by omega,aH (HZ.o.trans (if_neg (by decide))),HB1⟩
    case measure=>simp [intOf];omega
   · have HE:=aH (HZ.o.trans (if_pos rfl));go_wp2;go_ret;exact ⟨eF HE.o.symm,HB1.o⟩
  · have HE:=aH (show sU p 0 XL=-1 from by rw [HQ.o,List.drop_eq_nil_of_le (by have:=HN.o;omega)];rfl);have hlt':decide ((k:Int) < n)=false:=aF hlt;go_wp2;go_ret;exact ⟨eF HE.o.symm,HB.o⟩
theorem B0O (XL:List (ByteArray × Ex)) (p:(ByteArray × Ex)->Bool) (b0:Nat) (mo:Option Addr) (mc:Nat) (s:ByteArray) (w:World) (hs:Own w b0 9 [.string s]) (hn:(XL.length:Int)<=1000000)
  (hX:∀ k x,XL[k]?=some x->∃ b off ko kc,mo=some ⟨b,off,none⟩/\b < w.heap.size/\w.cell? ⟨b,off + k * 8,none⟩=some (.string x.1)/\w.cell? ⟨b,off + k * 8 + 1,none⟩=some (.int .i64 x.2.op)/\w.cell? ⟨b,off + k * 8 + 2,none⟩=some (.string x.2.text)/\w.cell? ⟨b,off + k * 8 + 3,none⟩=some (.int .u64 x.2.s0)/\w.cell? ⟨b,off + k * 8 + 4,none⟩=some (.int .u64 x.2.s1)/\w.cell? ⟨b,off + k * 8 + 5,none⟩=some (.int .u64 x.2.s2)/\w.cell? ⟨b,off + k * 8 + 6,none⟩=some (.int .u64 x.2.s3)/\w.cell? ⟨b,off + k * 8 + 7,none⟩=some (.slice ko x.2.kids.length kc)) (hp:∀ x,p x=(x.1.toList == s.toList)) :
  Calls Tryz.prog 117 #[.slice mo XL.length mc,.func (Fn.func 118) #[] #[.pointer (some ⟨b0,0,none⟩)]] w fun e w'=>e=.returned (.int .i64 (sU p 0 XL))/\Below w.heap.size w w':=by
 have HX:=aH hX;have HS0:=aH hs;have HPP:=aH hp;obtain ⟨n,hnn⟩:∃ n,XL.length=n:=⟨_,rfl⟩;have HN:=aH hnn;rw [hnn] at hn ⊢;clear hX hs hp hnn;have HB0:=aH (Below.refl w.heap.size w);go_enter Tryz.func117,Tryz.ntmps117;go_wp2_with fail
 go_loopw [8] (fun v8 wr=>∃ k:Nat,v8=.int .i64 (k:Int)/\(k:Int)<=n/\aQ (sU p 0 XL=sU p k (XL.drop k))/\aQ (Below w.heap.size w wr)) (fun v8 _=>n - (intOf v8).toNat)
 case atStart=>exact ⟨0,rfl,by omega,aH (by rw [List.drop_zero]),HB0⟩
 case round =>
  obtain ⟨k,rfl,hk,HQ,HB⟩:=hrel;clear HB0;have HS:=aH (HS0.o.under HB.o HS0.o.lt);have s0:=HS.o.cell 0;have sl:=HS.o.lt;by_cases hlt:(k:Int) < n
  ·
   obtain ⟨x,hx⟩:∃ x,XL[k]?=some x:=⟨_,aG (by have:=HN.o;omega)⟩
   have HD:=aH (show XL.drop k=x :: XL.drop (k + 1) from by
    obtain ⟨h1,h2⟩:=aS.1 hx
    rw [List.drop_eq_getElem_cons h1,h2])
   obtain ⟨b,off,ko,kc,rfl,hb,c0,c1,c2,c3,c4,c5,c6,c7⟩:=HX.o k x hx;have hbw:b < wr.heap.size:=aL hb HB.o.size;have d0:=aC c0 HB.o;have d1:=aC c1 HB.o;have d2:=aC c2 HB.o;have d3:=aC c3 HB.o;have d4:=aC c4 HB.o;have d5:=aC c5 HB.o;have d6:=aC c6 HB.o;have d7:=aC c7 HB.o;have hw1:IntKind.i64.wrap ((k:Int) + 1)=(k:Int) + 1:=wI;obtain ⟨z,hz⟩:∃ z,(x.1.toList == s.toList)=z:=⟨_,rfl⟩;have HZ:=aH (show sU p 0 XL=if z=true then (k:Int) else sU p (k + 1) (XL.drop (k + 1)) from by rw [HQ.o,HD.o,<- hz,<- HPP.o x];rfl);have HCC:=aH (B4P x ko kc b0 s z hz wr HS.o);clear hx HD HQ hb c0 c1 c2 c3 c4 c5 c6 c7;go_wp2_with fail;refine HCC.o.mono ?_;rintro e w1 ⟨rfl,hb1⟩;have HB1:=aH (HB.o.trans (hb1.mono HB.o.size));clear hb1
   cases z
   ·
    go_wp2
    go_roundw
    case rel=>exact ⟨k + 1,by go_num,by omega,aH (HZ.o.trans (if_neg (by decide))),HB1⟩
    case measure=>simp [intOf];omega
   · have HE:=aH (HZ.o.trans (if_pos rfl));go_wp2;go_ret;exact ⟨eF HE.o.symm,HB1.o⟩
  · have HE:=aH (show sU p 0 XL=-1 from by rw [HQ.o,List.drop_eq_nil_of_le (by have:=HN.o;omega)];rfl);have hlt':decide ((k:Int) < n)=false:=aF hlt;go_wp2;go_ret;exact ⟨eF HE.o.symm,HB.o⟩
theorem uX (ML:List Md) (D:Nat) (mo:Option Addr) (mc:Nat) (s:ByteArray) (hn:(ML.length:Int)<=1000000) (w:World) (hM:fK w D mo ML) :
  Calls Tryz.prog 52 #[.slice mo ML.length mc,.string s] w fun e w'=>e=.returned (.int .i64 (cB ML s))/\Below w.heap.size w w':=by
 have hb:Below w.heap.size w (w.alloc (.cells #[.string s] 9)):=bA _;obtain ⟨nn,hM2⟩:=hM.below hb
 have HC:=aH (B0N ML (fun m=>m.nm.toList == s.toList) w.heap.size mo mc s (w.alloc (.cells #[.string s] 9)) (Own.fresh w 9 [.string s]) hn (fun k x hx=>by
  obtain ⟨b,off,io,ic,ko,kc,ro,rc,e,hlt,_,c0,c1,c2,c3,c4,c5,c6,c7,c8,c9,cA,_⟩:=hM2 k x hx
  exact ⟨b,off,io,ic,ko,kc,ro,rc,e,hlt,c0,c1,c2,c3,c4,c5,c6,c7,c8,c9,cA⟩) (fun x=>rfl))
 have HB:=aH hb;clear hb hM hM2;go_enter Tryz.func52,Tryz.ntmps52;go_wp2_with fail;refine HC.o.mono ?_;rintro e w1 ⟨rfl,hb1⟩;have HB1:=aH (HB.o.trans (hb1.mono HB.o.size));go_wp2;go_ret;exact ⟨rfl,HB1.o⟩
theorem vM (m:Md) (D n:Nat) (io:Option Addr) (ic:Nat) (ko:Option Addr) (kc:Nat) (ro:Option Addr) (rc:Nat) (s:ByteArray) (hn:(m.ru.length:Int)<=1000000) (w:World) (hM:sN w D n ro m.ru) :
  Calls Tryz.prog 88 #[.agg #[.string m.nm,.slice io m.im.length ic,.bool m.wet,.int .i64 m.wa.op,.string m.wa.text,.int .u64 m.wa.s0,.int .u64 m.wa.s1,.int .u64 m.wa.s2,.int .u64 m.wa.s3,.slice ko m.wa.kids.length kc,.slice ro m.ru.length rc],.string s] w fun e w'=>e=.returned (.int .i64 (eU m s))/\Below w.heap.size w w':=by
 have hb:Below w.heap.size w ((w.alloc (.cells #[.string m.nm,.slice io m.im.length ic,.bool m.wet,.int .i64 m.wa.op,.string m.wa.text,.int .u64 m.wa.s0,.int .u64 m.wa.s1,.int .u64 m.wa.s2,.int .u64 m.wa.s3,.slice ko m.wa.kids.length kc,.slice ro m.ru.length rc] 35)).alloc (.cells #[.string s] 9)):=(bA _).alloc (by simp) _;have hM2:=hM.but (But.of_below (S:=fun _=>False) hb) (fun _ h=>h.elim);have HX:=aH ((Own.fresh w 35 [.string m.nm,.slice io m.im.length ic,.bool m.wet,.int .i64 m.wa.op,.string m.wa.text,.int .u64 m.wa.s0,.int .u64 m.wa.s1,.int .u64 m.wa.s2,.int .u64 m.wa.s3,.slice ko m.wa.kids.length kc,.slice ro m.ru.length rc]).on_alloc (.cells #[.string s] 9));have hO:=Own.fresh (w.alloc (.cells #[.string m.nm,.slice io m.im.length ic,.bool m.wet,.int .i64 m.wa.op,.string m.wa.text,.int .u64 m.wa.s0,.int .u64 m.wa.s1,.int .u64 m.wa.s2,.int .u64 m.wa.s3,.slice ko m.wa.kids.length kc,.slice ro m.ru.length rc] 35)) 9 [.string s];rw [show (w.alloc (.cells #[.string m.nm,.slice io m.im.length ic,.bool m.wet,.int .i64 m.wa.op,.string m.wa.text,.int .u64 m.wa.s0,.int .u64 m.wa.s1,.int .u64 m.wa.s2,.int .u64 m.wa.s3,.slice ko m.wa.kids.length kc,.slice ro m.ru.length rc] 35)).heap.size=w.heap.size + 1 from by simp] at hO
 have HC:=aH (B0O m.ru (fun r=>r.1.toList == s.toList) (w.heap.size + 1) ro rc s ((w.alloc (.cells #[.string m.nm,.slice io m.im.length ic,.bool m.wet,.int .i64 m.wa.op,.string m.wa.text,.int .u64 m.wa.s0,.int .u64 m.wa.s1,.int .u64 m.wa.s2,.int .u64 m.wa.s3,.slice ko m.wa.kids.length kc,.slice ro m.ru.length rc] 35)).alloc (.cells #[.string s] 9)) hO hn (fun k x hx=>by
  obtain ⟨b,off,ko,kc,e,hlt,_,c0,c1,c2,c3,c4,c5,c6,c7,_⟩:=hM2 k x hx
  exact ⟨b,off,ko,kc,e,hlt,c0,c1,c2,c3,c4,c5,c6,c7⟩) (fun x=>rfl))
 have HB:=aH hb;clear hb hM hM2 hO;go_enter Tryz.func88,Tryz.ntmps88;go_upto_region 1 with fail;generalize (w.alloc _).alloc _=w2 at *;obtain ⟨z0,z1,z2,z3,z4,z5,z6,z7,z8,z9,zA⟩:=HX.o.elev;have zl:=HX.o.lt;go_wp2_with fail;refine HC.o.mono ?_;rintro e w1 ⟨rfl,hb1⟩;have HB1:=aH (HB.o.trans (hb1.mono HB.o.size));go_wp2;go_ret;exact ⟨rfl,HB1.o⟩
theorem gL:(Tryz.prog.info? 3).map (fun i=>(i.zero,i.size,i.bytes))=some (some (.int .i64 0),1,8):=by kernel_rfl
def Zo (w:World) (ao:Option Addr) (L:List Int):Prop:=∀ k x,L[k]?=some x->∃ b off,ao=some ⟨b,off,none⟩/\b < w.heap.size/\w.cell? ⟨b,off + k,none⟩=some (.int .i64 x)
theorem Zo.below {w w':World} {ao:Option Addr} {L:List Int} (h:Zo w ao L) (hb:Below w.heap.size w w'):Zo w' ao L:=fun k x hx=>by obtain ⟨b,off,e,hlt,c⟩:=h k x hx;exact ⟨b,off,e,aL hlt hb.size,aC c hb⟩
theorem B0D {S:Nat->Prop} {w:World} {ao:Option Addr} {n c:Nat} {L:List Int} (h:Win S 3 1 w (.slice ao n c) n (L.map (Value.int .i64))):Zo w ao L:=fun k x hx=>by
 have hk:k < L.length:=(aS.1 hx).1;have hn:L.length=n:=by have:=h.1;simpa using this
 obtain ⟨ao',cap,e1,h1,h2,hf⟩:=h.form;injection e1 with e1 e2 e3;subst e1;obtain ⟨g,off,e,hs,hg,hc,_⟩:=hf k (by omega);exact ⟨g,off,e,hg,by rw [hc,List.getElem?_map,hx];rfl⟩
def yN (l:List Md) (m:Md) (i:Int):List Int:=i :: (m.im.map (cB l)).filter (fun k=>decide (0<=k))
theorem A8b (l:List Md) (im:List ByteArray) {k:Nat} {x:ByteArray} (h:im[k]?=some x):((im.take (k + 1)).map (cB l)).filter (fun k=>decide (0<=k))=((im.take k).map (cB l)).filter (fun k=>decide (0<=k)) ++ (if 0<=cB l x then [cB l x] else []):=by
 have hk:=(aS.1 h).1;have he:im[k]=x:=(aS.1 h).2;rw [List.take_succ_eq_append_getElem hk,List.map_append,List.filter_append,he]
 congr 1
 by_cases h0:0<=cB l x
 · rw [if_pos h0];simp [h0]
 · rw [if_neg h0];simp [h0]
theorem zL {α:Type} (p:α->Bool):∀ (k:Nat) (l:List α),sU p k l=-1\/((k:Int)<=sU p k l/\sU p k l < k + l.length)
 | _,[]=>.inl rfl
 | k,x :: r=>by
  unfold sU;split
  · right;simp;omega
  ·
   rcases zL p (k + 1) r with h | h
   · exact .inl h
   · right;simp at h ⊢;omega
theorem VH {α:Type} (p:α->Bool):∀ (k:Nat) (l:List α),0<=sU p k l->∃ x,l[(sU p k l).toNat - k]?=some x/\p x=true
 | _,[],h=>by simp [sU] at h
 | k,x :: r,h=>by
  unfold sU at h ⊢;split
  · rename_i hp;exact ⟨x,by simp,hp⟩
  · rename_i hp;rw [if_neg hp] at h;obtain ⟨y,h1,h2⟩:=VH p (k + 1) r h;have hb:=zL p (k + 1) r;refine ⟨y,?_,h2⟩;rw [show (sU p (k + 1) r).toNat - k=((sU p (k + 1) r).toNat - (k + 1)) + 1 by omega,List.getElem?_cons_succ];exact h1
theorem B3F (ML:List Md) (D:Nat) (mo:Option Addr) (mc:Nat) (i:Nat) (m:Md) (hi:ML[i]?=some m) (hn:(ML.length:Int)<=1000000) (hm:(m.im.length:Int)<=1000) (w:World) (hM:fK w D mo ML) :
  Calls Tryz.prog 116 #[.slice mo ML.length mc,.int .i64 (i:Int)] w fun e w'=>(∃ so sc,e=.returned (.slice so (yN ML m i).length sc)/\Zo w' so (yN ML m i))/\Below w.heap.size w w':=by
 have HFD:=aH (fun (s:ByteArray) W (hW:fK W D mo ML)=>uX ML D mo mc s hn W hW);have HM0:=aH hM;obtain ⟨nn,hM1⟩:=hM;obtain ⟨b,off,io,ic,ko,kc,ro,rc,e,hlt,_,c0,c1,-,-,-,-,-,-,-,-,-,hnr,-⟩:=hM1 i m hi;have HNR:=aH hnr.hasN;have hiL:i < ML.length:=(aS.1 hi).1;have HSL:=aH (show yN ML m i=(i:Int) :: ((m.im.take m.im.length).map (cB ML)).filter (fun k=>decide (0<=k)) from by rw [List.take_length];rfl);generalize yN ML m i=SL at *;obtain ⟨n,hnn⟩:∃ n,ML.length=n:=⟨_,rfl⟩;rw [hnn] at hn HFD hiL ⊢;obtain ⟨q,hq⟩:∃ q,m.im.length=q:=⟨_,rfl⟩;have HQ:=aH hq;rw [hq] at c1 hm HSL;have hi1:(i:Int) < n:=by omega
 have HMO:=aH e;clear hM1 hi hnr c0 hnn hq hiL;have hbl0:Below w.heap.size w (w.alloc (.cells #[.int .i64 (i:Int)] 3)):=bA _;have HB0:=aH hbl0;have HW0:=aH (show Win (fun j=>w.heap.size<=j) 3 1 (w.alloc (.cells #[.int .i64 (i:Int)] 3)) (.slice (some ⟨w.heap.size,0,none⟩) 1 1) 1 ([(i:Int)].map (Value.int .i64)) from (Win.one (Own.fresh w 3 [.int .i64 (i:Int)]) rfl).mono (fun j _ h=>by have h':j=w.heap.size:=h;omega));have c1':=aC c1 hbl0;have hlt':b < (w.alloc (.cells #[.int .i64 (i:Int)] 3)).heap.size:=aL hlt hbl0.size;clear hbl0 c1 hlt;rw [e];go_enter Tryz.func116,Tryz.ntmps116;go_upto_region 2 with fail;generalize w.alloc _=w1 at *;generalize hWS:w.heap.size=A at *;clear e;go_wp2_with fail;rw [<- HMO.o]
 go_loopw [5,17] (fun v5 v17 wr=>∃ (k:Nat) (L:List Int) (so:Option Addr) (sc:Nat),v5=.slice so L.length sc/\v17=.int .i64 (k:Int)/\(k:Int)<=q/\aQ (L=(i:Int) :: ((m.im.take k).map (cB ML)).filter (fun k=>decide (0<=k)))/\aQ (L.length<=k + 1) ∧
   aQ (Win (fun j=>A<=j) 3 1 wr (.slice so L.length sc) L.length (L.map (Value.int .i64)))/\aQ (Below A w wr)) (fun _ v17 _=>q - (intOf v17).toNat)
 case atStart=>exact ⟨0,[(i:Int)],some ⟨A,0,none⟩,1,rfl,rfl,by omega,aH (by simp),aH (by simp),HW0,HB0⟩
 case round =>
  obtain ⟨k,L,so,sc,rfl,rfl,hk,HL,HLL,HW,HB⟩:=hrel;clear HW0 HB0;obtain ⟨nl,hnl⟩:∃ z,L.length=z:=⟨_,rfl⟩;have HNL:=aH hnl;rw [hnl] at HW HLL;rw [hnl];clear hnl;by_cases hlt2:(k:Int) < q
  ·
   obtain ⟨x,hx⟩:∃ x,m.im[k]?=some x:=⟨_,aG (by have:=HQ.o;omega)⟩;obtain ⟨b2,off2,hio,hb2,d0⟩:=HNR.o k x hx;have HST:=aH (A8b ML m.im hx);have hBw:Below w.heap.size w wr:=(by rw [hWS];exact HB.o);have d0':=aC d0 hBw;have hb2':b2 < wr.heap.size:=aL hb2 hBw.size;have HMR:=aH (HM0.o.below hBw);have HFC:=aH (HFD.o x wr HMR.o);have hw1:IntKind.i64.wrap ((k:Int) + 1)=(k:Int) + 1:=wI;obtain ⟨r,hr⟩:∃ r,cB ML x=r:=⟨_,rfl⟩;rw [hr] at HFC HST;rw [hio];clear hx d0 hb2 hBw hr;go_wp2_with fail;refine HFC.o.mono ?_;rintro e2 w2 ⟨rfl,hb3⟩;have HB2:=aH (HB.o.trans (hb3.mono (by rw [<- hWS];exact HB.o.size)));have HW2:=aH (HW.o.below hb3);clear hb3 d0' hb2' hio;by_cases h0:0<=r
   ·
    have h0':decide (0<=r)=true:=aT h0;obtain ⟨i0,hi0,hz0,hz1,hz2⟩:=cZ gL;have HNEW:=aH (fun W=>bD W 3 [.int .i64 r]);have hnk:nl<=1001:=by have:=HLL.o;omega
    go_wp2_with (first
     | (at_builtin;refine aX _ rfl _ _ 39 rfl (fun j=>A<=j) 3 i0 _ 1 8 Tryz.underlying39 hi0 hz0 hz1 hz2 rfl (by decide) _ nl (L.map (Value.int .i64)) rfl (HW2.o.below (bA _)) ⟨w2.heap.size,0,none⟩ 1 1 [.int .i64 r] rfl rfl (HNEW.o w2) (by intro u hu;rw [List.mem_singleton.1 hu];rfl) (by unfold maxLen;omega) (by omega) ?_))
    intro v' w4 hw4 hb4;have hblx:Below w2.heap.size w2 (w2.alloc (.cells #[.int .i64 r] 3)):=bA _;have hA2:A<=w2.heap.size:=Nat.le_trans (by rw [<- hWS];exact Nat.le_refl _) (by have:=HB2.o.size;omega);have HB4:=aH ((HB2.o.trans (hblx.mono hA2)).trans (hb4.below (B:=A) (Nat.le_trans hA2 hblx.size) (fun j hs=>hs)))
    have HW4:=aH (show Win (fun j=>A<=j) 3 1 w4 v' (nl + 1) ((L ++ [r]).map (Value.int .i64)) from by
     rw [List.map_append]
     exact hw4.mono (fun j _ h=>by rcases h with h | h;exact h;(have h':w2.heap.size + 1<=j:=h;omega)))
    obtain ⟨so',sc',hv,-⟩:=HW4.o.form;subst hv;have HLN:=aH (show (L ++ [r]).length=nl + 1 from by rw [List.length_append,HNL.o];rfl);have HLQ:=aH (show L ++ [r]=(i:Int) :: ((m.im.take (k + 1)).map (cB ML)).filter (fun k=>decide (0<=k)) from by rw [HST.o,if_pos h0,HL.o];rfl);clear hw4 hb4 hblx;go_wp2
    go_roundw
    case rel=>exact ⟨k + 1,L ++ [r],so',sc',by rw [HLN.o],by go_num,by omega,HLQ,aH (by rw [HLN.o];have:=HLL.o;omega),by rw [HLN.o];exact HW4,HB4⟩
    case measure=>simp [intOf];omega
   ·
    have h0':decide (0<=r)=false:=aF h0;have HLQ:=aH (show L=(i:Int) :: ((m.im.take (k + 1)).map (cB ML)).filter (fun k=>decide (0<=k)) from by rw [HST.o,if_neg h0,HL.o];simp);go_wp2
    go_roundw
    case rel=>exact ⟨k + 1,L,so,sc,by rw [HNL.o],by go_num,by omega,HLQ,aH (by rw [HNL.o];have:=HLL.o;omega),by rw [HNL.o];exact HW2,HB2⟩
    case measure=>simp [intOf];omega
  ·
   have hkq:k=q:=(by omega);have HE:=aH (show SL=L from by rw [HSL.o,HL.o,hkq]);have hlt3:decide ((k:Int) < q)=false:=aF hlt2;clear hkq;go_wp2;go_ret;have h1:Zo wr so SL:=(by rw [HE.o];exact B0D HW.o);have h2:=HB.o;have h3:SL.length=nl:=by rw [HE.o,HNL.o]
   first
    | exact ⟨⟨so,sc,by rw [h3];rfl,h1⟩,h2⟩
    | exact ⟨⟨so,⟨sc,by rw [h3];rfl⟩,h1⟩,h2⟩
theorem Ad (ML:List Md) (D:Nat) (mo:Option Addr) (mc:Nat) (s:ByteArray) (hn:(ML.length:Int)<=1000000) (w:World) (hM:fK w D mo ML) :
  Calls Tryz.prog 57 #[.slice mo ML.length mc,.string s] w fun e w'=>e=.returned (.int .i64 (cB ML s))/\w=w':=by
 obtain ⟨nn,hM1⟩:=hM;have HX:=aH hM1;obtain ⟨n,hnn⟩:∃ n,ML.length=n:=⟨_,rfl⟩;have HN:=aH hnn;rw [hnn] at hn ⊢;clear hM1 hnn;go_enter Tryz.func57,Tryz.ntmps57;go_wp2_with fail
 go_loopw [5] (fun v8 wr=>∃ k:Nat,v8=.int .i64 (k:Int)/\(k:Int)<=n/\aQ (cB ML s=sU (fun m=>m.nm.toList == s.toList) k (ML.drop k))/\wr=w) (fun v8 _=>n - (intOf v8).toNat)
 case atStart=>exact ⟨0,rfl,by omega,aH (by rw [List.drop_zero];rfl),(by first | trivial | rfl)⟩
 case round =>
  obtain ⟨k,rfl,hk,HQ,rfl⟩:=hrel;by_cases hlt:(k:Int) < n
  ·
   obtain ⟨x,hx⟩:∃ x,ML[k]?=some x:=⟨_,aG (by have:=HN.o;omega)⟩
   have HD:=aH (show ML.drop k=x :: ML.drop (k + 1) from by
    obtain ⟨h1,h2⟩:=aS.1 hx
    rw [List.drop_eq_getElem_cons h1,h2])
   obtain ⟨b,off,io,ic,ko,kc,ro,rc,rfl,hb,_,c0,-⟩:=HX.o k x hx;have hw1:IntKind.i64.wrap ((k:Int) + 1)=(k:Int) + 1:=wI;obtain ⟨z,hz⟩:∃ z,(x.nm.toList == s.toList)=z:=⟨_,rfl⟩;have HZ:=aH (show cB ML s=if z=true then (k:Int) else sU (fun m=>m.nm.toList == s.toList) (k + 1) (ML.drop (k + 1)) from by rw [HQ.o,HD.o,<- hz];rfl);clear hx HD HQ
   cases z
   ·
    go_wp2
    go_roundw
    case rel=>exact ⟨k + 1,by go_num,by omega,aH (HZ.o.trans (if_neg (by decide))),(by first | trivial | rfl)⟩
    case measure=>simp [intOf];omega
   · have HE:=aH (HZ.o.trans (if_pos rfl));go_wp2;go_ret;exact ⟨eF HE.o.symm,rfl⟩
  · have HE:=aH (show cB ML s=-1 from by rw [HQ.o,List.drop_eq_nil_of_le (by have:=HN.o;omega)];rfl);have hlt':decide ((k:Int) < n)=false:=aF hlt;go_wp2;go_ret;exact ⟨eF HE.o.symm,rfl⟩
theorem Ae (m:Md) (D nn:Nat) (io:Option Addr) (ic:Nat) (ko:Option Addr) (kc:Nat) (ro:Option Addr) (rc:Nat) (s:ByteArray) (hn:(m.ru.length:Int)<=1000000) (w:World) (hM:sN w D nn ro m.ru) :
  Calls Tryz.prog 60 #[.agg #[.string m.nm,.slice io m.im.length ic,.bool m.wet,.int .i64 m.wa.op,.string m.wa.text,.int .u64 m.wa.s0,.int .u64 m.wa.s1,.int .u64 m.wa.s2,.int .u64 m.wa.s3,.slice ko m.wa.kids.length kc,.slice ro m.ru.length rc],.string s] w fun e w'=>e=.returned (.int .i64 (eU m s))/\Below w.heap.size w w':=by
 have hb:Below w.heap.size w (w.alloc (.cells #[.string m.nm,.slice io m.im.length ic,.bool m.wet,.int .i64 m.wa.op,.string m.wa.text,.int .u64 m.wa.s0,.int .u64 m.wa.s1,.int .u64 m.wa.s2,.int .u64 m.wa.s3,.slice ko m.wa.kids.length kc,.slice ro m.ru.length rc] 35)):=bA _;have HX:=aH (hM.but (But.of_below (S:=fun _=>False) hb) (fun _ h=>h.elim));obtain ⟨n,hnn⟩:∃ n,m.ru.length=n:=⟨_,rfl⟩;have HN:=aH hnn;rw [hnn] at hn hb HX;rw [hnn];have HB:=aH hb;have HO:=aH (Own.fresh w 35 [.string m.nm,.slice io m.im.length ic,.bool m.wet,.int .i64 m.wa.op,.string m.wa.text,.int .u64 m.wa.s0,.int .u64 m.wa.s1,.int .u64 m.wa.s2,.int .u64 m.wa.s3,.slice ko m.wa.kids.length kc,.slice ro n rc]);clear hb hM hnn;go_enter Tryz.func60,Tryz.ntmps60;go_upto_region 1 with fail;generalize w.alloc _=w1 at *;generalize hG:w.heap.size=G at *;obtain ⟨z0,z1,z2,z3,z4,z5,z6,z7,z8,z9,zA⟩:=HO.o.elev;have zl:=HO.o.lt;clear z0 z1 z2 z3 z4 z5 z6 z7 z8 z9;go_wp2_with fail
 go_loopw [5] (fun v8 wr=>∃ k:Nat,v8=.int .i64 (k:Int)/\(k:Int)<=n/\aQ (eU m s=sU (fun r=>r.1.toList == s.toList) k (m.ru.drop k))/\wr=w1) (fun v8 _=>n - (intOf v8).toNat)
 case atStart=>exact ⟨0,rfl,by omega,aH (by rw [List.drop_zero];rfl),(by first | trivial | rfl)⟩
 case round =>
  obtain ⟨k,rfl,hk,HQ,rfl⟩:=hrel;by_cases hlt:(k:Int) < n
  ·
   obtain ⟨x,hx⟩:∃ x,m.ru[k]?=some x:=⟨_,aG (by have:=HN.o;omega)⟩
   have HD:=aH (show m.ru.drop k=x :: m.ru.drop (k + 1) from by
    obtain ⟨h1,h2⟩:=aS.1 hx
    rw [List.drop_eq_getElem_cons h1,h2])
   obtain ⟨b,off,k2,kc2,hro,hb,_,c0,-⟩:=HX.o k x hx;rw [hro] at zA;have hw1:IntKind.i64.wrap ((k:Int) + 1)=(k:Int) + 1:=wI;obtain ⟨z,hz⟩:∃ z,(x.1.toList == s.toList)=z:=⟨_,rfl⟩;have HZ:=aH (show eU m s=if z=true then (k:Int) else sU (fun r=>r.1.toList == s.toList) (k + 1) (m.ru.drop (k + 1)) from by rw [HQ.o,HD.o,<- hz];rfl);clear hx HD HQ hro
   cases z
   ·
    go_wp2
    go_roundw
    case rel=>exact ⟨k + 1,by go_num,by omega,aH (HZ.o.trans (if_neg (by decide))),(by first | trivial | rfl)⟩
    case measure=>simp [intOf];omega
   · have HE:=aH (HZ.o.trans (if_pos rfl));go_wp2;go_ret;exact ⟨eF HE.o.symm,HB.o⟩
  · have HE:=aH (show eU m s=-1 from by rw [HQ.o,List.drop_eq_nil_of_le (by have:=HN.o;omega)];rfl);have hlt':decide ((k:Int) < n)=false:=aF hlt;go_wp2;go_ret;exact ⟨eF HE.o.symm,HB.o⟩
def Mx (w:World):Prop:=∃ m:Int,w.cell? ⟨0,0,none⟩=some (.int .i64 m)
theorem Mx.below {w w':World} (h:Mx w) (hb:Below w.heap.size w w'):Mx w':=by obtain ⟨m,hm⟩:=h;exact ⟨m,aC hm hb⟩
def iH (s:ByteArray):List UInt8 × List UInt8 × Bool:=Lib.cut s.data.toList [58,58]
def iA (s:ByteArray):ByteArray:=if (iH s).2.2=true then ofL (iH s).1 else ofL []
def iN (s:ByteArray):ByteArray:=if (iH s).2.2=true then ofL (iH s).2.1 else s
def splitB (s:ByteArray):Bool:=if (iH s).2.2=true then bN (ofL (iH s).1) && bN (ofL (iH s).2.1) else bN s
theorem Gc (s:ByteArray) (hs:s.size<=1000000) (w:World) (hm:Mx w):Calls Tryz.prog 86 #[.string s] w
  fun e w'=>e=.returned (.tuple #[.string (iA s),.string (iN s),.bool (splitB s)])/\Below w.heap.size w w':=by
 obtain ⟨m,hm⟩:=hm;have HM:=aH hm;clear hm;have hl1:(iH s).1.length<=s.size/\(iH s).2.1.length<=s.size:=by unfold iH Lib.cut;split <;> simp <;> omega
 have HC:=aH (show iH s=Lib.cut s.data.toList [58,58] from rfl);have HSM:=aH (show iA s=if (iH s).2.2=true then ofL (iH s).1 else ofL [] from rfl);have HSR:=aH (show iN s=if (iH s).2.2=true then ofL (iH s).2.1 else s from rfl);have HSB:=aH (show splitB s=if (iH s).2.2=true then bN (ofL (iH s).1) && bN (ofL (iH s).2.1) else bN s from rfl);have K:=aH (fun W hW=>Tryz.strings_Cut s ⟨#[58,58]⟩ m W (by omega) hW);obtain ⟨x,y,b,hc⟩:∃ x y b,iH s=(x,y,b):=⟨_,_,_,rfl⟩;rw [hc] at HSM HSR HSB HC hl1;simp only at HSM HSR HSB hl1;have hx:(ofL x).size<=maxLen:=by show x.toArray.size<=_;simp [maxLen];omega
 have hy:(ofL y).size<=maxLen:=by show y.toArray.size<=_;simp [maxLen];omega
 have hs2:s.size<=maxLen:=by unfold maxLen;omega
 have HX:=aH hx;have HY:=aH hy;have HS:=aH hs2;clear hx hy hs2 hc hl1;go_enter Tryz.func86,Tryz.ntmps86;go_wp2_with fail;refine (K.o _ HM.o).mono ?_;rintro e w1 ⟨rfl,nq,rfl⟩;rw [show Lib.cut s.data.toList ([58,58]:List UInt8)=(x,y,b) from HC.o.symm]
 cases b
 ·
  go_wp2_with fail;refine (tQ s HS.o _).mono ?_;rintro e w1 ⟨rfl,rfl⟩;go_wp2
  go_ret3
  exact ⟨by rw [HSM.o,HSR.o,HSB.o];rfl,below_drewN (Below.refl _ _) nq⟩
 ·
  obtain ⟨bx,hbx⟩:∃ bx,bN (ofL x)=bx:=⟨_,rfl⟩;have HBX:=aH hbx;clear hbx
  cases bx
  ·
   go_wp2_with fail;refine (tQ (ofL x) HX.o _).mono ?_;rintro e w1 ⟨rfl,rfl⟩;rw [HBX.o];go_wp2
   go_ret3
   exact ⟨by rw [HSM.o,HSR.o,HSB.o,HBX.o];rfl,below_drewN (Below.refl _ _) nq⟩
  ·
   go_wp2_with fail;refine (tQ (ofL x) HX.o _).mono ?_;rintro e w1 ⟨rfl,rfl⟩;rw [HBX.o];go_wp2_with fail;refine (tQ (ofL y) HY.o _).mono ?_;rintro e w1 ⟨rfl,rfl⟩;go_wp2
   go_ret3
   exact ⟨by rw [HSM.o,HSR.o,HSB.o,HBX.o];rfl,below_drewN (Below.refl _ _) nq⟩
def sep:ByteArray:=⟨#[58,58]⟩
theorem sepL:sep.toList=[58,58]:=by decide +kernel
theorem FI {s:ByteArray} {k:Nat} (h:Lib.index s.data.toList [58,58]=(k:Int)):iH s=(s.data.toList.take k,s.data.toList.drop (k + 2),true):=by unfold iH Lib.cut;rw [h,if_pos (by omega)];simp
theorem BR {s:ByteArray} (h:Lib.index s.data.toList [58,58]=-1):iH s=(s.data.toList,[],false):=by unfold iH Lib.cut;rw [h,if_neg (by omega)]
theorem Fy (s:ByteArray) (hs:s.size<=maxLen) (b:Bool) (h:bN s=b) (w:World):Calls Tryz.prog 14 #[.string s] w fun e w'=>e=.returned (.bool b)/\w'=w:=(nU s hs w).mono fun _ _ ⟨he,hw⟩=>⟨by rw [he,h],hw.symm⟩
theorem sF (s:ByteArray) (hs:s.size<=maxLen) (b:Bool) (h:bN s=b) (w:World):Calls Tryz.prog 34 #[.string s] w fun e w'=>e=.returned (.bool b)/\w'=w:=(tQ s hs w).mono fun _ _ ⟨he,hw⟩=>⟨by rw [he,h],hw.symm⟩
theorem xK (s:ByteArray) (hs:s.size<=1000000) (w:World):Calls Tryz.prog 59 #[.string s] w
  fun e w'=>e=.returned (.tuple #[.string (iA s),.string (iN s),.bool (splitB s)])/\Below w.heap.size w w':=by
 have HSM:=aH (show iA s=if (iH s).2.2=true then ofL (iH s).1 else ofL [] from rfl);have HSR:=aH (show iN s=if (iH s).2.2=true then ofL (iH s).2.1 else s from rfl);have HSB:=aH (show splitB s=if (iH s).2.2=true then bN (ofL (iH s).1) && bN (ofL (iH s).2.1) else bN s from rfl);go_enter Tryz.func59,Tryz.ntmps59;go_wp2
 go_loop [5] (fun i=>∃ k:Nat,k<=s.size/\i=.int .i64 k/\aQ (Lib.NoOccB s sep k)) (fun i=>s.size - (intOf i).toNat)
 case atStart=>exact ⟨0,Nat.zero_le _,rfl,aH (Lib.NoOcc.zero _ _)⟩
 case round =>
  obtain ⟨k,hk,rfl,HA⟩:=hrel;by_cases hlt:(k:Int) + 1 < s.size
  ·
   obtain ⟨b,hb⟩:∃ b,((s.extract k (k + 2)).toList == [58,58])=b:=⟨_,rfl⟩
   cases b
   ·
    have H1:=aH (Lib.miss_piece s sep k HA.o (by show k + 2<=s.size;omega) (by rw [sepL];exact hb));go_wp2
    go_round
    case rel=>exact ⟨k + 1,by omega,by go_num,H1⟩
    case measure=>simp [intOf];omega
   ·
    have hi:=Lib.hit s sep k HA.o (by show k + 2<=s.size;omega) (by rw [sepL];exact hb);have hcut:=FI (s:=s) (k:=k) hi;rw [hcut] at HSM HSR HSB;simp only [B1l,JH,if_true] at HSM HSR HSB;clear hi hcut;obtain ⟨bx,hbx⟩:∃ bx,bN (s.extract 0 k)=bx:=⟨_,rfl⟩;have HBX:=aH hbx;clear hbx;obtain ⟨by_,hby⟩:∃ by_,bN (s.extract (k + 2) s.size)=by_:=⟨_,rfl⟩;have HBY:=aH hby;clear hby;have hx:(s.extract 0 k).size<=maxLen:=(by simp [maxLen];omega);have hy:(s.extract (k + 2) s.size).size<=maxLen:=(by simp [maxLen];omega);have HX:=aH hx;have HY:=aH hy;clear hx hy;go_upto_region 5 with fail
    cases bx
    ·
     skip
     refine wp_region_quiet_lit (by kernel_rfl) (by kernel_rfl) ?_;repeat (go_big_quiet_step ((go_at_call 14;with_reducible exact Calls.quiet_of_same (Fy _ HX.o _ HBX.o _))))
     refine wpQuiet_nil ?_;intro _ hw';obtain ⟨nq,hw''⟩:=hw';subst hw'';go_wp2
     go_ret3
     exact ⟨by rw [HSM.o,HSR.o,HSB.o,HBX.o];rfl,below_drewN (Below.refl _ _) _⟩
    ·
     skip
     refine wp_region_quiet_lit (by kernel_rfl) (by kernel_rfl) ?_;repeat (go_big_quiet_step (first | (go_at_call 14;with_reducible exact Calls.quiet_of_same (Fy _ HX.o _ HBX.o _)) | (go_at_call 14;with_reducible exact Calls.quiet_of_same (Fy _ HY.o _ HBY.o _))))
     refine wpQuiet_nil ?_;intro _ hw';obtain ⟨nq,hw''⟩:=hw';subst hw'';go_wp2
     go_ret3
     exact ⟨by rw [HSM.o,HSR.o,HSB.o,HBX.o,HBY.o];rfl,below_drewN (Below.refl _ _) _⟩
  ·
   have hi:=Lib.past s sep k HA.o (by decide) (by show s.size < k + 2;omega);have hcut:=BR (s:=s) hi;rw [hcut] at HSM HSR HSB;have hs2:s.size<=maxLen:=(by unfold maxLen;omega);have HS:=aH hs2;clear hi hcut hs2;go_wp2_with fail;refine (nU s HS.o _).mono ?_;rintro e w1 ⟨rfl,rfl⟩;go_wp2
   go_ret3
   exact ⟨by rw [HSM.o,HSR.o,HSB.o];rfl,Below.refl _ _⟩
abbrev Rv:=Int × Int × Bool
def Ut (mod nm:ByteArray):Bool:=!(mod.toList == []) && !(nm.toList == mod.toList)
def zR (l:List Md) (mod name:ByteArray):List Int->Rv
 | []=>(0,0,false)
 | k :: r=>match l[k.toNat]? with
  | none=>(0,0,false)
  | some m=>if Ut mod m.nm=true then zR l mod name r else if 0<=eU m name then (k,eU m name,true) else zR l mod name r
theorem Ac {l:List Md} {mod name:ByteArray} {j:Nat} {m:Md} {r:List Int} (hm:l[j]?=some m):zR l mod name ((j:Int) :: r)=if Ut mod m.nm=true then zR l mod name r else if 0<=eU m name then ((j:Int),eU m name,true) else zR l mod name r:=by
 conv=>lhs;unfold zR
 rw [Int.toNat_natCast,hm]
def uD (l:List Md) (i:Int) (ref:ByteArray):Rv :=
 if splitB ref=true/\0<=i/\i < l.length then (match l[i.toNat]? with
  | none=>(0,0,false)
  | some m=>zR l (iA ref) (iN ref) (yN l m i))
 else (0,0,false)
def rvV (r:Rv):Value:=.tuple #[.int .i64 r.1,.int .i64 r.2.1,.bool r.2.2]
def Few (l:List Md):Prop:=(l.length:Int)<=1000000/\∀ m ∈ l,(m.im.length:Int)<=1000/\(m.ru.length:Int)<=1000000
theorem mK (ML:List Md) (D:Nat) (mo:Option Addr) (mc:Nat) (i:Int) (ref:ByteArray) (hr:ref.size<=1000000) (hf:Few ML) (w:World) (hM:fK w D mo ML) (hx:Mx w) :
  Calls Tryz.prog 87 #[.slice mo ML.length mc,.int .i64 i,.string ref] w fun e w'=>e=.returned (rvV (uD ML i ref))/\Below w.heap.size w w':=by
 have HSP:=aH (Gc ref hr w hx);have HM0:=aH hM;have HFW:=aH hf;have hn:=hf.1;have HRS:=aH (show uD ML i ref=if splitB ref=true/\0<=i/\i < ML.length then (match ML[i.toNat]? with | none=>(0,0,false) | some m=>zR ML (iA ref) (iN ref) (yN ML m i)) else (0,0,false) from rfl);generalize uD ML i ref=RES at *;obtain ⟨mod,hmod⟩:∃ z,iA ref=z:=⟨_,rfl⟩;obtain ⟨nam,hnam⟩:∃ z,iN ref=z:=⟨_,rfl⟩;obtain ⟨z,hz⟩:∃ z,splitB ref=z:=⟨_,rfl⟩;rw [hmod,hnam,hz] at HSP HRS;clear hM hf hx hmod hnam hz;obtain ⟨n,hnn⟩:∃ n,ML.length=n:=⟨_,rfl⟩;have HN:=aH hnn;rw [hnn] at hn HRS ⊢;clear hnn;go_enter Tryz.func87,Tryz.ntmps87;go_wp2_with fail;refine HSP.o.mono ?_;rintro e w1 ⟨rfl,hb1⟩;have HB1:=aH hb1;have HM1:=aH (HM0.o.below hb1);clear hb1 HSP
 cases z with
 | false =>
  have HE:=aH (show RES=(0,0,false) from by rw [HRS.o,if_neg (by simp)]);go_wp2
  go_ret3
  exact ⟨by rw [HE.o];rfl,HB1.o⟩
 | true =>
  by_cases h0:i < 0
  ·
   have h0':decide (i < 0)=true:=aT h0;have HE:=aH (show RES=(0,0,false) from by rw [HRS.o,if_neg (by omega)]);go_wp2
   go_ret3
   exact ⟨by rw [HE.o];rfl,HB1.o⟩
  ·
   have h0':decide (i < 0)=false:=aF h0;by_cases h1:(n:Int)<=i
   ·
    have h1':decide ((n:Int)<=i)=true:=aT h1;have HE:=aH (show RES=(0,0,false) from by rw [HRS.o,if_neg (by omega)]);go_wp2
    go_ret3
    exact ⟨by rw [HE.o];rfl,HB1.o⟩
   ·
    obtain ⟨q,rfl⟩:∃ q:Nat,i=(q:Int):=⟨i.toNat,by omega⟩;have h1':decide ((n:Int)<=(q:Int))=false:=aF h1;have h1n:decide (n<=q)=false:=aF (by omega);obtain ⟨m,hm⟩:∃ m,ML[q]?=some m:=⟨_,aG (by have:=HN.o;omega)⟩;have HE0:=aH (show RES=zR ML mod nam (yN ML m q) from by rw [HRS.o,if_pos ⟨rfl,by omega,by omega⟩,Int.toNat_natCast,hm]);have HSC:=aH (B3F ML D mo mc q m hm (by have:=HFW.o.1;exact this) ((HFW.o.2 m (aM hm)).1) w1 HM1.o)
    have HSN:=aH (show ∀ k ∈ yN ML m q,0<=k/\k < n from fun k hk=>by
     rcases List.mem_cons.1 hk with rfl | hk
     · omega
     ·
      obtain ⟨h2,h3⟩:=List.mem_filter.1 hk;obtain ⟨x,-,rfl⟩:=List.mem_map.1 h2;have h4:0<=cB ML x:=of_decide_eq_true h3;rcases zL (fun m:Md=>m.nm.toList == x.toList) 0 ML with h5 | h5
      · have:cB ML x=-1:=h5;omega
      · have h6:cB ML x < 0 + ML.length:=h5.2;have:=HN.o;omega)
    have HSL:=aH (show ((yN ML m q).length:Int)<=1001 from by
     have h2:=(HFW.o.2 m (aM hm)).1;have h3:=List.length_filter_le (fun k=>decide (0<=k)) (m.im.map (cB ML));rw [List.length_map] at h3;show (((m.im.map (cB ML)).filter (fun k=>decide (0<=k))).length + 1:Int)<=1001
     omega)
    rw [HN.o] at HSC;generalize yN ML m q=SL at *;clear hm HRS h1;go_wp2_with fail;refine HSC.o.mono ?_;rintro e w2 ⟨hso,hb2⟩;have hso':∃ so sc,e=.returned (.slice so SL.length sc)/\Zo w2 so SL:=hso;obtain ⟨so,sc,rfl,hin⟩:=hso';have HB2:=aH (HB1.o.trans (hb2.mono HB1.o.size));have HM2:=aH (HM1.o.below hb2);have HI2:=aH hin;obtain ⟨nl,hnl⟩:∃ z,SL.length=z:=⟨_,rfl⟩;have HNL:=aH hnl;rw [hnl] at HSL;rw [hnl];clear hso hin hb2 hnl HB1 HM1 HSC;have HQ0:=aH (show RES=zR ML mod nam (SL.drop 0) from by rw [List.drop_zero];exact HE0.o);clear HE0;have hnl2:=HSL.o;go_wp2_with fail
    go_loopw [37] (fun v37 wr=>∃ k:Nat,v37=.int .i64 (k:Int)/\(k:Int)<=nl/\aQ (RES=zR ML mod nam (SL.drop k))/\aQ (fK wr D mo ML)/\aQ (Zo wr so SL)/\aQ (Below w.heap.size w wr)) (fun v37 _=>nl - (intOf v37).toNat)
    case atStart=>exact ⟨0,rfl,by omega,HQ0,HM2,HI2,HB2⟩
    case round =>
     obtain ⟨k,rfl,hk,HQ,HM,HI,HB⟩:=hrel;clear HQ0 HM2 HI2 HB2;by_cases hlt:(k:Int) < nl
     ·
      obtain ⟨x,hx⟩:∃ x,SL[k]?=some x:=⟨_,aG (by have:=HNL.o;omega)⟩
      have HD:=aH (show SL.drop k=x :: SL.drop (k + 1) from by
       obtain ⟨h1,h2⟩:=aS.1 hx
       rw [List.drop_eq_getElem_cons h1,h2])
      obtain ⟨hx0,hx1⟩:=HSN.o x (aM hx);obtain ⟨j,rfl⟩:∃ j:Nat,x=(j:Int):=⟨x.toNat,by omega⟩;obtain ⟨b1,off1,hso1,hb1,d0⟩:=HI.o k _ hx;obtain ⟨mj,hmj⟩:∃ m,ML[j]?=some m:=⟨_,aG (by have:=HN.o;omega)⟩;obtain ⟨nn,hMr⟩:=HM.o;obtain ⟨b,off,io,ic,ko,kc,ro,rc,hmo,hb,_,c0,c1,c2,c3,c4,c5,c6,c7,c8,c9,cA,-,-,hru⟩:=hMr j mj hmj;have HRC:=aH (fun W (hW:Below wr.heap.size wr W)=>vM mj D nn io ic ko kc ro rc nam ((HFW.o.2 mj (aM hmj)).2) W (hru.but (But.of_below (S:=fun _=>False) hW) (fun _ h=>h.elim)));have HZ:=aH (show RES=if Ut mod mj.nm=true then zR ML mod nam (SL.drop (k + 1)) else if 0<=eU mj nam then ((j:Int),eU mj nam,true) else zR ML mod nam (SL.drop (k + 1)) from by rw [HQ.o,HD.o,Ac hmj]);have hw1:IntKind.i64.wrap ((k:Int) + 1)=(k:Int) + 1:=wI;obtain ⟨za,hza⟩:∃ z,(mod.toList == [])=z:=⟨_,rfl⟩;obtain ⟨zb,hzb⟩:∃ z,(mj.nm.toList == mod.toList)=z:=⟨_,rfl⟩;have HOB:=aH (show Ut mod mj.nm=(!za && !zb) from by unfold Ut;rw [hza,hzb]);clear hx hmj hMr hru;subst hso1;subst hmo
      cases za with
      | true =>
       have HZ1:=aH (HZ.o.trans (if_neg (by rw [HOB.o];simp)));clear hzb;go_wp2_with fail;refine (HRC.o _ (Below.refl _ _)).mono ?_;rintro e w3 ⟨rfl,hb3⟩;have HB3:=aH (HB.o.trans (hb3.mono HB.o.size));have HM3:=aH (HM.o.below hb3);have HI3:=aH (HI.o.below hb3);obtain ⟨q,hq⟩:∃ q,eU mj nam=q:=⟨_,rfl⟩;rw [hq] at HZ1;rw [hq];clear hb3 hq;by_cases h0q:0<=q
       ·
        have h0q':decide (0<=q)=true:=aT h0q;have HE:=aH (HZ1.o.trans (if_pos h0q));go_wp2
        go_ret3
        exact ⟨by rw [HE.o];rfl,HB3.o⟩
       ·
        have h0q':decide (0<=q)=false:=aF h0q;have HE:=aH (HZ1.o.trans (if_neg h0q));go_wp2
        go_roundw
        case rel=>exact ⟨k + 1,by go_num,by omega,HE,HM3,HI3,HB3⟩
        case measure=>simp [intOf];omega
      | false =>
       cases zb with
       | true =>
        have HZ1:=aH (HZ.o.trans (if_neg (by rw [HOB.o];simp)));go_wp2_with fail;refine (HRC.o _ (Below.refl _ _)).mono ?_;rintro e w3 ⟨rfl,hb3⟩;have HB3:=aH (HB.o.trans (hb3.mono HB.o.size));have HM3:=aH (HM.o.below hb3);have HI3:=aH (HI.o.below hb3);obtain ⟨q,hq⟩:∃ q,eU mj nam=q:=⟨_,rfl⟩;rw [hq] at HZ1;rw [hq];clear hb3 hq;by_cases h0q:0<=q
        ·
         have h0q':decide (0<=q)=true:=aT h0q;have HE:=aH (HZ1.o.trans (if_pos h0q));go_wp2
         go_ret3
         exact ⟨by rw [HE.o];rfl,HB3.o⟩
        ·
         have h0q':decide (0<=q)=false:=aF h0q;have HE:=aH (HZ1.o.trans (if_neg h0q));go_wp2
         go_roundw
         case rel=>exact ⟨k + 1,by go_num,by omega,HE,HM3,HI3,HB3⟩
         case measure=>simp [intOf];omega
       | false =>
        have HE:=aH (HZ.o.trans (if_pos (by rw [HOB.o];rfl)));go_wp2
        go_roundw
        case rel=>exact ⟨k + 1,by go_num,by omega,HE,HM,HI,HB⟩
        case measure=>simp [intOf];omega
     ·
      have HE:=aH (show RES=(0,0,false) from by rw [HQ.o,List.drop_eq_nil_of_le (by have:=HNL.o;omega)];rfl);have hlt':decide ((k:Int) < nl)=false:=aF hlt;go_wp2
      go_ret3
      exact ⟨by rw [HE.o];rfl,HB.o⟩
end Go.Proofs.YthkdnehgamefiaaGreat
