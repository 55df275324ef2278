import Derived.Test.YthkdnehgamefiaaGreatHz
import Derived.Lib.IndexMore
import Derived.ShutString
import Derived.Lib.IndexBytes
import Derived.Deep.Cut
namespace Go.Proofs.YthkdnehgamefiaaGreat
set_option linter.unusedVariables false
set_option maxRecDepth 1000000
open Go.RowKit Go.Sort
def sU {α:Type} (p:α->Bool):Nat->List α->Int
 | _,[]=>-1
 | k,x :: r=>if p x=true then (k:Int) else sU p (k + 1) r
def cB (l:List Md) (s:ByteArray):Int:=sU (fun m=>m.nm.toList == s.toList) 0 l
def Zo (w:World) (ao:Option Addr) (L:List Int):Prop:=∀ k x,L[k]?=some x->∃ b off,ao=some ⟨b,off,none⟩/\b < w.heap.size/\w.cell? ⟨b,off + k,none⟩=some (.int .i64 x)
theorem Zo.below {w w':World} {ao:Option Addr} {L:List Int} (h:Zo w ao L) (hb:Below w.heap.size w w'):Zo w' ao L:=fun k x hx=>by obtain ⟨b,off,e,hlt,c⟩:=h k x hx;exact ⟨b,off,e,aL hlt hb.size,aC c hb⟩
def Mx (w:World):Prop:=∃ m:Int,w.cell? ⟨0,0,none⟩=some (.int .i64 m)
theorem Mx.below {w w':World} (h:Mx w) (hb:Below w.heap.size w w'):Mx w':=by obtain ⟨m,hm⟩:=h;exact ⟨m,aC hm hb⟩
def iH (s:ByteArray):List UInt8 × List UInt8 × Bool:=Lib.cut s.data.toList [58,58]
def iA (s:ByteArray):ByteArray:=if (iH s).2.2=true then ofL (iH s).1 else ofL []
def iN (s:ByteArray):ByteArray:=if (iH s).2.2=true then ofL (iH s).2.1 else s
def splitB (s:ByteArray):Bool:=if (iH s).2.2=true then bN (ofL (iH s).1) && bN (ofL (iH s).2.1) else bN s
set_option maxHeartbeats 1600000 in
theorem Gc (s:ByteArray) (hs:s.size<=1000000) (w:World) (hm:Mx w):Calls Tryz.prog 86 #[.string s] w
  fun e w'=>e=.returned (.tuple #[.string (iA s),.string (iN s),.bool (splitB s)])/\Below w.heap.size w w':=by
 obtain ⟨m,hm⟩:=hm;have HM:=aH hm;clear hm;have hl1:(iH s).1.length<=s.size/\(iH s).2.1.length<=s.size:=by unfold iH Lib.cut;split <;> simp <;> omega
 have HC:=aH (show iH s=Lib.cut s.data.toList [58,58] from rfl);have HSM:=aH (show iA s=if (iH s).2.2=true then ofL (iH s).1 else ofL [] from rfl);have HSR:=aH (show iN s=if (iH s).2.2=true then ofL (iH s).2.1 else s from rfl);have HSB:=aH (show splitB s=if (iH s).2.2=true then bN (ofL (iH s).1) && bN (ofL (iH s).2.1) else bN s from rfl);have K:=aH (fun W hW=>Tryz.strings_Cut s ⟨#[58,58]⟩ m W (by omega) hW);obtain ⟨x,y,b,hc⟩:∃ x y b,iH s=(x,y,b):=⟨_,_,_,rfl⟩;rw [hc] at HSM HSR HSB HC hl1;simp only at HSM HSR HSB hl1;have hx:(ofL x).size<=maxLen:=by show x.toArray.size<=_;simp [maxLen];omega
 have hy:(ofL y).size<=maxLen:=by show y.toArray.size<=_;simp [maxLen];omega
 have hs2:s.size<=maxLen:=by unfold maxLen;omega
 have HX:=aH hx;have HY:=aH hy;have HS:=aH hs2;clear hx hy hs2 hc hl1;go_enter Tryz.func86,Tryz.ntmps86;go_wp2_with fail;refine (K.o _ HM.o).mono ?_;rintro e w1 ⟨rfl,nq,rfl⟩;rw [show Lib.cut s.data.toList ([58,58]:List UInt8)=(x,y,b) from HC.o.symm]
 cases b
 ·
  go_wp2_with fail;refine (tQ s HS.o _).mono ?_;rintro e w1 ⟨rfl,rfl⟩;go_wp2
  go_ret3
  exact ⟨by rw [HSM.o,HSR.o,HSB.o];rfl,below_drewN (Below.refl _ _) nq⟩
 ·
  obtain ⟨bx,hbx⟩:∃ bx,bN (ofL x)=bx:=⟨_,rfl⟩;have HBX:=aH hbx;clear hbx
  cases bx
  ·
   go_wp2_with fail;refine (tQ (ofL x) HX.o _).mono ?_;rintro e w1 ⟨rfl,rfl⟩;rw [HBX.o];go_wp2
   go_ret3
   exact ⟨by rw [HSM.o,HSR.o,HSB.o,HBX.o];rfl,below_drewN (Below.refl _ _) nq⟩
  ·
   go_wp2_with fail;refine (tQ (ofL x) HX.o _).mono ?_;rintro e w1 ⟨rfl,rfl⟩;rw [HBX.o];go_wp2_with fail;refine (tQ (ofL y) HY.o _).mono ?_;rintro e w1 ⟨rfl,rfl⟩;go_wp2
   go_ret3
   exact ⟨by rw [HSM.o,HSR.o,HSB.o,HBX.o];rfl,below_drewN (Below.refl _ _) nq⟩
def sep:ByteArray:=⟨#[58,58]⟩
theorem sF (s:ByteArray) (hs:s.size<=maxLen) (b:Bool) (h:bN s=b) (w:World):Calls Tryz.prog 34 #[.string s] w fun e w'=>e=.returned (.bool b)/\w'=w:=(tQ s hs w).mono fun _ _ ⟨he,hw⟩=>⟨by rw [he,h],hw.symm⟩
end Go.Proofs.YthkdnehgamefiaaGreat
