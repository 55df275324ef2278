import Derived.Test.YthddifjhoniacaaGreatHz
import Derived.Lib.IndexMore
import Derived.ShutString
import Derived.Lib.IndexBytes
import Derived.Deep.Cut
namespace Go.Proofs.YthddifjhoniacaaGreat
set_option linter.unusedVariables false
set_option maxHeartbeats 3200000
set_option maxRecDepth 1000000
open Go.RowKit Go.Sort
def sU {α:Type} (p:α->Bool):Nat->List α->Int
 | _,[]=>-1
 | k,x :: r=>if p x=true then (k:Int) else sU p (k + 1) r
def cB (l:List Md) (s:ByteArray):Int:=sU (fun m=>m.nm.toList == s.toList) 0 l
def eU (m:Md) (s:ByteArray):Int:=sU (fun r=>r.1.toList == s.toList) 0 m.ru
theorem gL:(Tryz.prog.info? 3).map (fun i=>(i.zero,i.size,i.bytes))=some (some (.int .i64 0),1,8):=by kernel_rfl
def Zo (w:World) (ao:Option Addr) (L:List Int):Prop:=∀ k x,L[k]?=some x->∃ b off,ao=some ⟨b,off,none⟩/\b < w.heap.size/\w.cell? ⟨b,off + k,none⟩=some (.int .i64 x)
theorem Zo.below {w w':World} {ao:Option Addr} {L:List Int} (h:Zo w ao L) (hb:Below w.heap.size w w'):Zo w' ao L:=fun k x hx=>by obtain ⟨b,off,e,hlt,c⟩:=h k x hx;exact ⟨b,off,e,aL hlt hb.size,aC c hb⟩
def yN (l:List Md) (m:Md) (i:Int):List Int:=i :: (m.im.map (cB l)).filter (fun k=>decide (0<=k))
theorem zL {α:Type} (p:α->Bool):∀ (k:Nat) (l:List α),sU p k l=-1\/((k:Int)<=sU p k l/\sU p k l < k + l.length)
 | _,[]=>.inl rfl
 | k,x :: r=>by
  unfold sU;split
  · right;simp;omega
  ·
   rcases zL p (k + 1) r with h | h
   · exact .inl h
   · right;simp at h ⊢;omega
theorem VH {α:Type} (p:α->Bool):∀ (k:Nat) (l:List α),0<=sU p k l->∃ x,l[(sU p k l).toNat - k]?=some x/\p x=true
 | _,[],h=>by simp [sU] at h
 | k,x :: r,h=>by
  unfold sU at h ⊢;split
  · rename_i hp;exact ⟨x,by simp,hp⟩
  · rename_i hp;rw [if_neg hp] at h;obtain ⟨y,h1,h2⟩:=VH p (k + 1) r h;have hb:=zL p (k + 1) r;refine ⟨y,?_,h2⟩;rw [show (sU p (k + 1) r).toNat - k=((sU p (k + 1) r).toNat - (k + 1)) + 1 by omega,List.getElem?_cons_succ];exact h1
theorem Ad (ML:List Md) (D:Nat) (mo:Option Addr) (mc:Nat) (s:ByteArray) (hn:(ML.length:Int)<=1000000) (w:World) (hM:fK w D mo ML) :
  Calls Tryz.prog 62 #[.slice mo ML.length mc,.string s] w fun e w'=>e=.returned (.int .i64 (cB ML s))/\w=w':=by
 obtain ⟨nn,hM1⟩:=hM;have HX:=aH hM1;obtain ⟨n,hnn⟩:∃ n,ML.length=n:=⟨_,rfl⟩;have HN:=aH hnn;rw [hnn] at hn ⊢;clear hM1 hnn;go_enter Tryz.func62,Tryz.ntmps62;go_wp2_with fail
 go_loopw [5] (fun v8 wr=>∃ k:Nat,v8=.int .i64 (k:Int)/\(k:Int)<=n/\aQ (cB ML s=sU (fun m=>m.nm.toList == s.toList) k (ML.drop k))/\wr=w) (fun v8 _=>n - (intOf v8).toNat)
 case atStart=>exact ⟨0,rfl,by omega,aH (by rw [List.drop_zero];rfl),(by first | trivial | rfl)⟩
 case round =>
  obtain ⟨k,rfl,hk,HQ,rfl⟩:=hrel;by_cases hlt:(k:Int) < n
  ·
   obtain ⟨x,hx⟩:∃ x,ML[k]?=some x:=⟨_,aG (by have:=HN.o;omega)⟩
   have HD:=aH (show ML.drop k=x :: ML.drop (k + 1) from by
    obtain ⟨h1,h2⟩:=aS.1 hx
    rw [List.drop_eq_getElem_cons h1,h2])
   obtain ⟨b,off,io,ic,ko,kc,ro,rc,rfl,hb,_,c0,-⟩:=HX.o k x hx;have hw1:IntKind.i64.wrap ((k:Int) + 1)=(k:Int) + 1:=wI;obtain ⟨z,hz⟩:∃ z,(x.nm.toList == s.toList)=z:=⟨_,rfl⟩;have HZ:=aH (show cB ML s=if z=true then (k:Int) else sU (fun m=>m.nm.toList == s.toList) (k + 1) (ML.drop (k + 1)) from by rw [HQ.o,HD.o,<- hz];rfl);clear hx HD HQ
   cases z
   ·
    go_wp2
    go_roundw
    case rel=>exact ⟨k + 1,by go_num,by omega,aH (HZ.o.trans (if_neg (by decide))),(by first | trivial | rfl)⟩
    case measure=>simp [intOf];omega
   · have HE:=aH (HZ.o.trans (if_pos rfl));go_wp2;go_ret;exact ⟨eF HE.o.symm,rfl⟩
  · have HE:=aH (show cB ML s=-1 from by rw [HQ.o,List.drop_eq_nil_of_le (by have:=HN.o;omega)];rfl);have hlt':decide ((k:Int) < n)=false:=aF hlt;go_wp2;go_ret;exact ⟨eF HE.o.symm,rfl⟩
theorem Ae (m:Md) (D nn:Nat) (io:Option Addr) (ic:Nat) (ko:Option Addr) (kc:Nat) (ro:Option Addr) (rc:Nat) (s:ByteArray) (hn:(m.ru.length:Int)<=1000000) (w:World) (hM:sN w D nn ro m.ru) :
  Calls Tryz.prog 65 #[.agg #[.string m.nm,.slice io m.im.length ic,.bool m.wet,.int .i64 m.wa.op,.string m.wa.text,.int .u64 m.wa.s0,.int .u64 m.wa.s1,.int .u64 m.wa.s2,.int .u64 m.wa.s3,.slice ko m.wa.kids.length kc,.slice ro m.ru.length rc],.string s] w fun e w'=>e=.returned (.int .i64 (eU m s))/\Below w.heap.size w w':=by
 have hb:Below w.heap.size w (w.alloc (.cells #[.string m.nm,.slice io m.im.length ic,.bool m.wet,.int .i64 m.wa.op,.string m.wa.text,.int .u64 m.wa.s0,.int .u64 m.wa.s1,.int .u64 m.wa.s2,.int .u64 m.wa.s3,.slice ko m.wa.kids.length kc,.slice ro m.ru.length rc] 73)):=bA _;have HX:=aH (hM.but (But.of_below (S:=fun _=>False) hb) (fun _ h=>h.elim));obtain ⟨n,hnn⟩:∃ n,m.ru.length=n:=⟨_,rfl⟩;have HN:=aH hnn;rw [hnn] at hn hb HX;rw [hnn];have HB:=aH hb;have HO:=aH (Own.fresh w 73 [.string m.nm,.slice io m.im.length ic,.bool m.wet,.int .i64 m.wa.op,.string m.wa.text,.int .u64 m.wa.s0,.int .u64 m.wa.s1,.int .u64 m.wa.s2,.int .u64 m.wa.s3,.slice ko m.wa.kids.length kc,.slice ro n rc]);clear hb hM hnn;go_enter Tryz.func65,Tryz.ntmps65;go_upto_region 1 with fail;generalize w.alloc _=w1 at *;generalize hG:w.heap.size=G at *;obtain ⟨z0,z1,z2,z3,z4,z5,z6,z7,z8,z9,zA⟩:=HO.o.elev;have zl:=HO.o.lt;clear z0 z1 z2 z3 z4 z5 z6 z7 z8 z9;go_wp2_with fail
 go_loopw [5] (fun v8 wr=>∃ k:Nat,v8=.int .i64 (k:Int)/\(k:Int)<=n/\aQ (eU m s=sU (fun r=>r.1.toList == s.toList) k (m.ru.drop k))/\wr=w1) (fun v8 _=>n - (intOf v8).toNat)
 case atStart=>exact ⟨0,rfl,by omega,aH (by rw [List.drop_zero];rfl),(by first | trivial | rfl)⟩
 case round =>
  obtain ⟨k,rfl,hk,HQ,rfl⟩:=hrel;by_cases hlt:(k:Int) < n
  ·
   obtain ⟨x,hx⟩:∃ x,m.ru[k]?=some x:=⟨_,aG (by have:=HN.o;omega)⟩
   have HD:=aH (show m.ru.drop k=x :: m.ru.drop (k + 1) from by
    obtain ⟨h1,h2⟩:=aS.1 hx
    rw [List.drop_eq_getElem_cons h1,h2])
   obtain ⟨b,off,k2,kc2,hro,hb,_,c0,-⟩:=HX.o k x hx;rw [hro] at zA;have hw1:IntKind.i64.wrap ((k:Int) + 1)=(k:Int) + 1:=wI;obtain ⟨z,hz⟩:∃ z,(x.1.toList == s.toList)=z:=⟨_,rfl⟩;have HZ:=aH (show eU m s=if z=true then (k:Int) else sU (fun r=>r.1.toList == s.toList) (k + 1) (m.ru.drop (k + 1)) from by rw [HQ.o,HD.o,<- hz];rfl);clear hx HD HQ hro
   cases z
   ·
    go_wp2
    go_roundw
    case rel=>exact ⟨k + 1,by go_num,by omega,aH (HZ.o.trans (if_neg (by decide))),(by first | trivial | rfl)⟩
    case measure=>simp [intOf];omega
   · have HE:=aH (HZ.o.trans (if_pos rfl));go_wp2;go_ret;exact ⟨eF HE.o.symm,HB.o⟩
  · have HE:=aH (show eU m s=-1 from by rw [HQ.o,List.drop_eq_nil_of_le (by have:=HN.o;omega)];rfl);have hlt':decide ((k:Int) < n)=false:=aF hlt;go_wp2;go_ret;exact ⟨eF HE.o.symm,HB.o⟩
def iH (s:ByteArray):List UInt8 × List UInt8 × Bool:=Lib.cut s.data.toList [58,58]
def iA (s:ByteArray):ByteArray:=if (iH s).2.2=true then ofL (iH s).1 else ofL []
def iN (s:ByteArray):ByteArray:=if (iH s).2.2=true then ofL (iH s).2.1 else s
def splitB (s:ByteArray):Bool:=if (iH s).2.2=true then bN (ofL (iH s).1) && bN (ofL (iH s).2.1) else bN s
def sep:ByteArray:=⟨#[58,58]⟩
theorem sepL:sep.toList=[58,58]:=by decide +kernel
theorem FI {s:ByteArray} {k:Nat} (h:Lib.index s.data.toList [58,58]=(k:Int)):iH s=(s.data.toList.take k,s.data.toList.drop (k + 2),true):=by unfold iH Lib.cut;rw [h,if_pos (by omega)];simp
theorem BR {s:ByteArray} (h:Lib.index s.data.toList [58,58]=-1):iH s=(s.data.toList,[],false):=by unfold iH Lib.cut;rw [h,if_neg (by omega)]
theorem Fy (s:ByteArray) (hs:s.size<=maxLen) (b:Bool) (h:bN s=b) (w:World):Calls Tryz.prog 80 #[.string s] w fun e w'=>e=.returned (.bool b)/\w'=w:=(nU s hs w).mono fun _ _ ⟨he,hw⟩=>⟨by rw [he,h],hw.symm⟩
theorem xK (s:ByteArray) (hs:s.size<=1000000) (w:World):Calls Tryz.prog 64 #[.string s] w
  fun e w'=>e=.returned (.tuple #[.string (iA s),.string (iN s),.bool (splitB s)])/\Below w.heap.size w w':=by
 have HSM:=aH (show iA s=if (iH s).2.2=true then ofL (iH s).1 else ofL [] from rfl);have HSR:=aH (show iN s=if (iH s).2.2=true then ofL (iH s).2.1 else s from rfl);have HSB:=aH (show splitB s=if (iH s).2.2=true then bN (ofL (iH s).1) && bN (ofL (iH s).2.1) else bN s from rfl);go_enter Tryz.func64,Tryz.ntmps64;go_wp2
 go_loop [5] (fun i=>∃ k:Nat,k<=s.size/\i=.int .i64 k/\aQ (Lib.NoOccB s sep k)) (fun i=>s.size - (intOf i).toNat)
 case atStart=>exact ⟨0,Nat.zero_le _,rfl,aH (Lib.NoOcc.zero _ _)⟩
 case round =>
  obtain ⟨k,hk,rfl,HA⟩:=hrel;by_cases hlt:(k:Int) + 1 < s.size
  ·
   obtain ⟨b,hb⟩:∃ b,((s.extract k (k + 2)).toList == [58,58])=b:=⟨_,rfl⟩
   cases b
   ·
    have H1:=aH (Lib.miss_piece s sep k HA.o (by show k + 2<=s.size;omega) (by rw [sepL];exact hb));go_wp2
    go_round
    case rel=>exact ⟨k + 1,by omega,by go_num,H1⟩
    case measure=>simp [intOf];omega
   ·
    have hi:=Lib.hit s sep k HA.o (by show k + 2<=s.size;omega) (by rw [sepL];exact hb);have hcut:=FI (s:=s) (k:=k) hi;rw [hcut] at HSM HSR HSB;simp only [B1l,JH,if_true] at HSM HSR HSB;clear hi hcut;obtain ⟨bx,hbx⟩:∃ bx,bN (s.extract 0 k)=bx:=⟨_,rfl⟩;have HBX:=aH hbx;clear hbx;obtain ⟨by_,hby⟩:∃ by_,bN (s.extract (k + 2) s.size)=by_:=⟨_,rfl⟩;have HBY:=aH hby;clear hby;have hx:(s.extract 0 k).size<=maxLen:=(by simp [maxLen];omega);have hy:(s.extract (k + 2) s.size).size<=maxLen:=(by simp [maxLen];omega);have HX:=aH hx;have HY:=aH hy;clear hx hy;go_upto_region 5 with fail
    cases bx
    ·
     skip
     refine wp_region_quiet_lit (by kernel_rfl) (by kernel_rfl) ?_;repeat (go_big_quiet_step ((go_at_call 80;with_reducible exact Calls.quiet_of_same (Fy _ HX.o _ HBX.o _))))
     refine wpQuiet_nil ?_;intro _ hw';obtain ⟨nq,hw''⟩:=hw';subst hw'';go_wp2
     go_ret3
     exact ⟨by rw [HSM.o,HSR.o,HSB.o,HBX.o];rfl,below_drewN (Below.refl _ _) _⟩
    ·
     skip
     refine wp_region_quiet_lit (by kernel_rfl) (by kernel_rfl) ?_;repeat (go_big_quiet_step (first | (go_at_call 80;with_reducible exact Calls.quiet_of_same (Fy _ HX.o _ HBX.o _)) | (go_at_call 80;with_reducible exact Calls.quiet_of_same (Fy _ HY.o _ HBY.o _))))
     refine wpQuiet_nil ?_;intro _ hw';obtain ⟨nq,hw''⟩:=hw';subst hw'';go_wp2
     go_ret3
     exact ⟨by rw [HSM.o,HSR.o,HSB.o,HBX.o,HBY.o];rfl,below_drewN (Below.refl _ _) _⟩
  ·
   have hi:=Lib.past s sep k HA.o (by decide) (by show s.size < k + 2;omega);have hcut:=BR (s:=s) hi;rw [hcut] at HSM HSR HSB;have hs2:s.size<=maxLen:=(by unfold maxLen;omega);have HS:=aH hs2;clear hi hcut hs2;go_wp2_with fail;refine (nU s HS.o _).mono ?_;rintro e w1 ⟨rfl,rfl⟩;go_wp2
   go_ret3
   exact ⟨by rw [HSM.o,HSR.o,HSB.o];rfl,Below.refl _ _⟩
abbrev Rv:=Int × Int × Bool
def Ut (mod nm:ByteArray):Bool:=!(mod.toList == []) && !(nm.toList == mod.toList)
def zR (l:List Md) (mod name:ByteArray):List Int->Rv
 | []=>(0,0,false)
 | k :: r=>match l[k.toNat]? with
  | none=>(0,0,false)
  | some m=>if Ut mod m.nm=true then zR l mod name r else if 0<=eU m name then (k,eU m name,true) else zR l mod name r
theorem Ac {l:List Md} {mod name:ByteArray} {j:Nat} {m:Md} {r:List Int} (hm:l[j]?=some m):zR l mod name ((j:Int) :: r)=if Ut mod m.nm=true then zR l mod name r else if 0<=eU m name then ((j:Int),eU m name,true) else zR l mod name r:=by
 conv=>lhs;unfold zR
 rw [Int.toNat_natCast,hm]
def uD (l:List Md) (i:Int) (ref:ByteArray):Rv :=
 if splitB ref=true/\0<=i/\i < l.length then (match l[i.toNat]? with
  | none=>(0,0,false)
  | some m=>zR l (iA ref) (iN ref) (yN l m i))
 else (0,0,false)
def rvV (r:Rv):Value:=.tuple #[.int .i64 r.1,.int .i64 r.2.1,.bool r.2.2]
def Few (l:List Md):Prop:=(l.length:Int)<=1000000/\∀ m ∈ l,(m.im.length:Int)<=1000/\(m.ru.length:Int)<=1000000
end Go.Proofs.YthddifjhoniacaaGreat
