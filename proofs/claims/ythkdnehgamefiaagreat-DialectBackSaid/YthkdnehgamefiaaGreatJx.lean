import Derived.Test.YthkdnehgamefiaaGreatRgR
namespace Go.Proofs.YthkdnehgamefiaaGreat
set_option linter.unusedVariables false
set_option maxRecDepth 1000000
open Go.RowKit Go.Sort
structure Nj where
 op:Int
 tx:ByteArray
 s0:Int
 s1:Int
 s2:Int
 s3:Int
 ks:List Nat
 tg:Int
 mo:Nat
 ru:Int
structure Hj where
 mo:Nat
 nm:ByteArray
 bo:Nat
structure Gj where
 ms:List ByteArray
 ns:List Nj
 hs:List Hj
 ws:List Int
 st:Int
abbrev Ft3:=Int × Int × Int
def orF:Option Ft3->Option Ft3->Option Ft3
 | some f,_=>some f
 | none,b=>b
def nL (no:ByteArray):List ByteArray->List ByteArray->Bool
 | _,[]=>true
 | B,x :: r=>bN x && !(x.toList == no.toList) && !(hasB B x) && nL no (B ++ [x]) r
def Qx (m:Md):Bool:=bN m.nm && decide (m.im.length<=4) && nL m.nm [] m.im && decide (m.ru.length<=24) && (!m.wet || dQ 53 m.wa) && m.ru.all (fun r=>dQ 53 r.2) && nL ⟨#[]⟩ [] (m.ru.map (·.1))
def hdE (ML:List Md) (i:Nat) (m:Md):Option Ft3 :=
 if 4<=i then some (3,(i:Int),-1) else if Qx m=false then some (1,(i:Int),-1) else if cB ML m.nm=(i:Int) then none else some (4,(i:Int),-1)
def hd1 (ML:List Md):List Md->Nat->Nat->Option Ft3->Option Ft3
 | [],_,_,F=>F
 | m :: r,i,s,F=>hd1 ML r (i + 1) (s + m.ru.length) (orF (orF F (hdE ML i m)) (if 24 < s + m.ru.length then some (3,(i:Int),-1) else none))
def imF (ML:List Md) (i:Nat):List ByteArray->Option Ft3->Option Ft3
 | [],F=>F
 | x :: r,F=>imF ML i r (if cB ML x < 0 then orF F (some (5,(i:Int),-1)) else F)
def hd2 (ML:List Md):List Md->Nat->Option Ft3->Option Ft3
 | [],_,F=>F
 | m :: r,i,F=>hd2 ML r (i + 1) (imF ML i m.im F)
theorem nG (gr:Gj):∃ a b c d:Nat,gr.ns.length=a/\gr.hs.length=b/\gr.ms.length=c/\gr.ws.length=d:=⟨_,_,_,_,rfl,rfl,rfl,rfl⟩
end Go.Proofs.YthkdnehgamefiaaGreat
