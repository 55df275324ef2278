import Derived.Test.YthkdnehgamefiaaGreatHj
namespace Go.Proofs.YthkdnehgamefiaaGreat
set_option linter.unusedVariables false
set_option maxRecDepth 1000000
open Go.RowKit Go.Sort
def dZ (o:Int) (t:ByteArray):Bool:=if o=1 then !t.toList.isEmpty && decide ((t.size:Int)<=40) else if o=11 then splitB t else if o=12 then bN t else t.toList.isEmpty
def dJ (o:Int) (m:Nat):Bool:=if o=1\/o=2\/o=3\/o=11 then m == 0 else if o=4\/o=5 then decide (2<=m) else if o=6\/o=7\/o=8\/o=9\/o=10\/o=12\/o=13 then m == 1 else false
def zB (a b c d:Int):Bool:=a == 0 && b == 0 && c == 0 && d == 0
def ownB (o:Int) (t:ByteArray) (a b c d:Int) (m:Nat):Bool:=dZ o t && dJ o m && !((o == 2) == zB a b c d)
def uB (x:Ex):Bool:=ownB x.op x.text x.s0 x.s1 x.s2 x.s3 x.kids.length
def gQ:Nat->Ex->Bool
 | 0,_=>false
 | n + 1,x=>uB x && x.kids.all (gQ n)
theorem jN (n:Nat) (x:Ex):gQ (n + 1) x=(uB x && x.kids.all (gQ n)):=rfl
def dQ (n:Nat) (x:Ex):Bool:=decide (bJ n x<=12) && gQ n x
@[go_sem 2000] theorem C1N (a b c d:Int) (w:World) :
  (Op.equalIn 10000 29 (.agg #[.int .u64 a,.int .u64 b,.int .u64 c,.int .u64 d]) (.agg #[.int .u64 0,.int .u64 0,.int .u64 0,.int .u64 0])).run Tryz.prog w=.ok (zB a b c d) w:=eq4 a b c d 0 0 0 0 w
theorem below_boxr (w:World) (A:Obj):Below w.heap.size w (w.alloc A):=bA _
theorem qR (o:Int):(o=1\/o=2\/o=3\/o=11\/o=4\/o=5\/o=6\/o=7\/o=8\/o=9\/o=10\/o=12\/o=13)\/((o == 1)=false/\(o == 2)=false/\(o == 3)=false/\(o == 11)=false/\(o == 4)=false/\(o == 5)=false/\(o == 6)=false/\(o == 7)=false/\(o == 8)=false/\(o == 9)=false/\(o == 10)=false/\(o == 12)=false/\(o == 13)=false):=by simp only [aN];omega
theorem Dx {f:Ex->Bool} {K:List Ex} {k:Nat} {y:Ex} (h:K[k]?=some y):(K.take (k + 1)).all f=((K.take k).all f && f y):=by have hk:=(aS.1 h).1;have e:K[k]=y:=(aS.1 h).2;rw [List.take_succ_eq_append_getElem hk,List.all_append,e];simp
theorem wU {f:Ex->Bool} {K:List Ex} {k:Nat} {y:Ex} (h:K[k]?=some y) (hf:f y=false):K.all f=false:=by rw [Bool.eq_false_iff];intro ha;have:=List.all_eq_true.1 ha y (aM h);rw [hf] at this;cases this
def Fw (n:Nat) (x:Ex):Prop:=fit 90001 n x=true/\TxA 100000 x
theorem Fw.no {x:Ex} (h:Fw 0 x):False:=by cases h.1
theorem Fw.len {n:Nat} {x:Ex} (h:Fw n x):x.kids.length<=90001/\x.text.size<=100000:=⟨Db h.1,h.2.text⟩
theorem Fw.kid {n:Nat} {x y:Ex} (h:Fw (n + 1) x) {k:Nat} (hy:x.kids[k]?=some y):Fw n y:=⟨rQ h.1 hy,h.2.kid (aM hy)⟩
theorem gY (t:ByteArray):t.toList.isEmpty=decide (t.size=0):=by rw [ByteArray.toList_eq,Bool.eq_iff_iff,List.isEmpty_iff_length_eq_zero,decide_eq_true_iff];simp
theorem Cn (t:ByteArray):dZ 11 t=splitB t:=by unfold dZ;rw [if_neg (by decide),if_pos rfl]
end Go.Proofs.YthkdnehgamefiaaGreat
