import Derived.Test.YthkdnehgamefiaaGreatHz
import Derived.Lib.IndexMore
import Derived.ShutString
import Derived.Lib.IndexBytes
import Derived.Deep.Cut
namespace Go.Proofs.YthkdnehgamefiaaGreat
set_option linter.unusedVariables false
set_option maxRecDepth 1000000
open Go.RowKit Go.Sort
def sU {α:Type} (p:α->Bool):Nat->List α->Int
 | _,[]=>-1
 | k,x :: r=>if p x=true then (k:Int) else sU p (k + 1) r
def cB (l:List Md) (s:ByteArray):Int:=sU (fun m=>m.nm.toList == s.toList) 0 l
def eU (m:Md) (s:ByteArray):Int:=sU (fun r=>r.1.toList == s.toList) 0 m.ru
def Zo (w:World) (ao:Option Addr) (L:List Int):Prop:=∀ k x,L[k]?=some x->∃ b off,ao=some ⟨b,off,none⟩/\b < w.heap.size/\w.cell? ⟨b,off + k,none⟩=some (.int .i64 x)
theorem Zo.below {w w':World} {ao:Option Addr} {L:List Int} (h:Zo w ao L) (hb:Below w.heap.size w w'):Zo w' ao L:=fun k x hx=>by obtain ⟨b,off,e,hlt,c⟩:=h k x hx;exact ⟨b,off,e,aL hlt hb.size,aC c hb⟩
def yN (l:List Md) (m:Md) (i:Int):List Int:=i :: (m.im.map (cB l)).filter (fun k=>decide (0<=k))
theorem zL {α:Type} (p:α->Bool):∀ (k:Nat) (l:List α),sU p k l=-1\/((k:Int)<=sU p k l/\sU p k l < k + l.length)
 | _,[]=>.inl rfl
 | k,x :: r=>by
  unfold sU;split
  · right;simp;omega
  ·
   rcases zL p (k + 1) r with h | h
   · exact .inl h
   · right;simp at h ⊢;omega
theorem VH {α:Type} (p:α->Bool):∀ (k:Nat) (l:List α),0<=sU p k l->∃ x,l[(sU p k l).toNat - k]?=some x/\p x=true
 | _,[],h=>by simp [sU] at h
 | k,x :: r,h=>by
  unfold sU at h ⊢;split
  · rename_i hp;exact ⟨x,by simp,hp⟩
  · rename_i hp;rw [if_neg hp] at h;obtain ⟨y,h1,h2⟩:=VH p (k + 1) r h;have hb:=zL p (k + 1) r;refine ⟨y,?_,h2⟩;rw [show (sU p (k + 1) r).toNat - k=((sU p (k + 1) r).toNat - (k + 1)) + 1 by omega,List.getElem?_cons_succ];exact h1
def Mx (w:World):Prop:=∃ m:Int,w.cell? ⟨0,0,none⟩=some (.int .i64 m)
theorem Mx.below {w w':World} (h:Mx w) (hb:Below w.heap.size w w'):Mx w':=by obtain ⟨m,hm⟩:=h;exact ⟨m,aC hm hb⟩
def iH (s:ByteArray):List UInt8 × List UInt8 × Bool:=Lib.cut s.data.toList [58,58]
def iA (s:ByteArray):ByteArray:=if (iH s).2.2=true then ofL (iH s).1 else ofL []
def iN (s:ByteArray):ByteArray:=if (iH s).2.2=true then ofL (iH s).2.1 else s
def splitB (s:ByteArray):Bool:=if (iH s).2.2=true then bN (ofL (iH s).1) && bN (ofL (iH s).2.1) else bN s
set_option maxHeartbeats 1600000 in
theorem Gc (s:ByteArray) (hs:s.size<=1000000) (w:World) (hm:Mx w):Calls Tryz.prog 86 #[.string s] w
  fun e w'=>e=.returned (.tuple #[.string (iA s),.string (iN s),.bool (splitB s)])/\Below w.heap.size w w':=by
 obtain ⟨m,hm⟩:=hm;have HM:=aH hm;clear hm;have hl1:(iH s).1.length<=s.size/\(iH s).2.1.length<=s.size:=by unfold iH Lib.cut;split <;> simp <;> omega
 have HC:=aH (show iH s=Lib.cut s.data.toList [58,58] from rfl);have HSM:=aH (show iA s=if (iH s).2.2=true then ofL (iH s).1 else ofL [] from rfl);have HSR:=aH (show iN s=if (iH s).2.2=true then ofL (iH s).2.1 else s from rfl);have HSB:=aH (show splitB s=if (iH s).2.2=true then bN (ofL (iH s).1) && bN (ofL (iH s).2.1) else bN s from rfl);have K:=aH (fun W hW=>Tryz.strings_Cut s ⟨#[58,58]⟩ m W (by omega) hW);obtain ⟨x,y,b,hc⟩:∃ x y b,iH s=(x,y,b):=⟨_,_,_,rfl⟩;rw [hc] at HSM HSR HSB HC hl1;simp only at HSM HSR HSB hl1;have hx:(ofL x).size<=maxLen:=by show x.toArray.size<=_;simp [maxLen];omega
 have hy:(ofL y).size<=maxLen:=by show y.toArray.size<=_;simp [maxLen];omega
 have hs2:s.size<=maxLen:=by unfold maxLen;omega
 have HX:=aH hx;have HY:=aH hy;have HS:=aH hs2;clear hx hy hs2 hc hl1;go_enter Tryz.func86,Tryz.ntmps86;go_wp2_with fail;refine (K.o _ HM.o).mono ?_;rintro e w1 ⟨rfl,nq,rfl⟩;rw [show Lib.cut s.data.toList ([58,58]:List UInt8)=(x,y,b) from HC.o.symm]
 cases b
 ·
  go_wp2_with fail;refine (tQ s HS.o _).mono ?_;rintro e w1 ⟨rfl,rfl⟩;go_wp2
  go_ret3
  exact ⟨by rw [HSM.o,HSR.o,HSB.o];rfl,below_drewN (Below.refl _ _) nq⟩
 ·
  obtain ⟨bx,hbx⟩:∃ bx,bN (ofL x)=bx:=⟨_,rfl⟩;have HBX:=aH hbx;clear hbx
  cases bx
  ·
   go_wp2_with fail;refine (tQ (ofL x) HX.o _).mono ?_;rintro e w1 ⟨rfl,rfl⟩;rw [HBX.o];go_wp2
   go_ret3
   exact ⟨by rw [HSM.o,HSR.o,HSB.o,HBX.o];rfl,below_drewN (Below.refl _ _) nq⟩
  ·
   go_wp2_with fail;refine (tQ (ofL x) HX.o _).mono ?_;rintro e w1 ⟨rfl,rfl⟩;rw [HBX.o];go_wp2_with fail;refine (tQ (ofL y) HY.o _).mono ?_;rintro e w1 ⟨rfl,rfl⟩;go_wp2
   go_ret3
   exact ⟨by rw [HSM.o,HSR.o,HSB.o,HBX.o];rfl,below_drewN (Below.refl _ _) nq⟩
def sep:ByteArray:=⟨#[58,58]⟩
theorem BR {s:ByteArray} (h:Lib.index s.data.toList [58,58]=-1):iH s=(s.data.toList,[],false):=by unfold iH Lib.cut;rw [h,if_neg (by omega)]
theorem sF (s:ByteArray) (hs:s.size<=maxLen) (b:Bool) (h:bN s=b) (w:World):Calls Tryz.prog 34 #[.string s] w fun e w'=>e=.returned (.bool b)/\w'=w:=(tQ s hs w).mono fun _ _ ⟨he,hw⟩=>⟨by rw [he,h],hw.symm⟩
abbrev Rv:=Int × Int × Bool
def Ut (mod nm:ByteArray):Bool:=!(mod.toList == []) && !(nm.toList == mod.toList)
def zR (l:List Md) (mod name:ByteArray):List Int->Rv
 | []=>(0,0,false)
 | k :: r=>match l[k.toNat]? with
  | none=>(0,0,false)
  | some m=>if Ut mod m.nm=true then zR l mod name r else if 0<=eU m name then (k,eU m name,true) else zR l mod name r
theorem Ac {l:List Md} {mod name:ByteArray} {j:Nat} {m:Md} {r:List Int} (hm:l[j]?=some m):zR l mod name ((j:Int) :: r)=if Ut mod m.nm=true then zR l mod name r else if 0<=eU m name then ((j:Int),eU m name,true) else zR l mod name r:=by
 conv=>lhs;unfold zR
 rw [Int.toNat_natCast,hm]
def uD (l:List Md) (i:Int) (ref:ByteArray):Rv :=
 if splitB ref=true/\0<=i/\i < l.length then (match l[i.toNat]? with
  | none=>(0,0,false)
  | some m=>zR l (iA ref) (iN ref) (yN l m i))
 else (0,0,false)
end Go.Proofs.YthkdnehgamefiaaGreat
