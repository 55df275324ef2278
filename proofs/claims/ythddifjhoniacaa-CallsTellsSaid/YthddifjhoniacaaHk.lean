import Derived.Test.YthddifjhoniacaaHi
import Derived.Laws.Tables
namespace Go.Proofs.Ythddifjhoniacaa
set_option linter.unusedVariables false
open Go.RowKit
theorem Own.seven {w:World} {g:Nat} {t:TypeId} {v0 v1 v2 v3 v4 v5 v6:Value} (h:Own w g t [v0,v1,v2,v3,v4,v5,v6]) :
  w.cell? ⟨g,0,none⟩=some v0/\w.cell? ⟨g,1,none⟩=some v1/\w.cell? ⟨g,2,none⟩=some v2/\w.cell? ⟨g,3,none⟩=some v3/\w.cell? ⟨g,4,none⟩=some v4/\w.cell? ⟨g,5,none⟩=some v5/\w.cell? ⟨g,6,none⟩=some v6 :=
 ⟨h.cell 0,h.cell 1,h.cell 2,h.cell 3,h.cell 4,h.cell 5,h.cell 6⟩
theorem Own.seven2 {w:World} {g:Nat} {t:TypeId} {v0 v1 v2 v3 v4 v5 v6:Value} (h:Own w g t [v0,v1,v2,v3,v4,v5,v6]) :
  w.cell? ⟨g,0,none⟩=some v0/\w.cell? ⟨g,1,none⟩=some v1/\w.cell? ⟨g,2,none⟩=some v2/\w.cell? ⟨g,3,none⟩=some v3/\w.cell? ⟨g,4,none⟩=some v4/\w.cell? ⟨g,5,none⟩=some v5/\w.cell? ⟨g,6,none⟩=some v6 ∧
  w.frozen? ⟨g,0,none⟩=false/\w.frozen? ⟨g,1,none⟩=false/\w.frozen? ⟨g,2,none⟩=false/\w.frozen? ⟨g,3,none⟩=false/\w.frozen? ⟨g,4,none⟩=false/\w.frozen? ⟨g,5,none⟩=false/\w.frozen? ⟨g,6,none⟩=false :=
 ⟨h.cell 0,h.cell 1,h.cell 2,h.cell 3,h.cell 4,h.cell 5,h.cell 6,h.thaw 0,h.thaw 1,h.thaw 2,h.thaw 3,h.thaw 4,h.thaw 5,h.thaw 6⟩
def set7t (w:World) (g:Nat) (u0 u1 u2 u3 u4 u5 u6:Value):World:=((((((w.setCell ⟨g,0,none⟩ u0).setCell ⟨g,1,none⟩ u1).setCell ⟨g,2,none⟩ u2).setCell ⟨g,3,none⟩ u3).setCell ⟨g,4,none⟩ u4).setCell ⟨g,5,none⟩ u5).setCell ⟨g,6,none⟩ u6
theorem set7t_fold (w:World) (g:Nat) (u0 u1 u2 u3 u4 u5 u6:Value):((((((w.setCell ⟨g,0,none⟩ u0).setCell ⟨g,1,none⟩ u1).setCell ⟨g,2,none⟩ u2).setCell ⟨g,3,none⟩ u3).setCell ⟨g,4,none⟩ u4).setCell ⟨g,5,none⟩ u5).setCell ⟨g,6,none⟩ u6=set7t w g u0 u1 u2 u3 u4 u5 u6:=rfl
theorem Own.put7 {w:World} {g:Nat} {t:TypeId} {v0 v1 v2 v3 v4 v5 v6 u0 u1 u2 u3 u4 u5 u6:Value} (h:Own w g t [v0,v1,v2,v3,v4,v5,v6]):Own (set7t w g u0 u1 u2 u3 u4 u5 u6) g t [u0,u1,u2,u3,u4,u5,u6] :=
 ((((((h.put 0 u0).put 1 u1).put 2 u2).put 3 u3).put 4 u4).put 5 u5).put 6 u6
theorem below_put7 {B g:Nat} {a w:World} (h:Below B a w) (hg:B<=g) (u0 u1 u2 u3 u4 u5 u6:Value):Below B a (set7t w g u0 u1 u2 u3 u4 u5 u6) :=
 ((((((h.setCell (p:=⟨g,0,none⟩) hg u0).setCell (p:=⟨g,1,none⟩) hg u1).setCell (p:=⟨g,2,none⟩) hg u2).setCell (p:=⟨g,3,none⟩) hg u3).setCell (p:=⟨g,4,none⟩) hg u4).setCell (p:=⟨g,5,none⟩) hg u5).setCell (p:=⟨g,6,none⟩) hg u6
@[go_sem 2000] theorem tbuild2 (k:Int) (t:ByteArray) (w:World):(Instr.build 101 #[(0,.int .i64 k),(1,.string t)]).run Try.prog w=.ok (.agg #[.int .i64 k,.string t,.int .u64 0,.int .u64 0,.int .u64 0,.int .u64 0,.int .i64 0]) w:=run_build w _ _ _ (by kernel_rfl)
@[go_sem 2000] theorem tbuild3 (k a b c d:Int) (w:World):(Instr.build 101 #[(0,.int .i64 k),(2,.agg #[.int .u64 a,.int .u64 b,.int .u64 c,.int .u64 d])]).run Try.prog w=.ok (.agg #[.int .i64 k,.string ⟨#[]⟩,.int .u64 a,.int .u64 b,.int .u64 c,.int .u64 d,.int .i64 0]) w:=run_build w _ _ _ (by kernel_rfl)
@[go_sem 2000] theorem tbuild4 (n:Int) (w:World):(Instr.build 101 #[(3,.int .i64 n)]).run Try.prog w=.ok (.agg #[.int .i64 0,.string ⟨#[]⟩,.int .u64 0,.int .u64 0,.int .u64 0,.int .u64 0,.int .i64 n]) w:=run_build w _ _ _ (by kernel_rfl)
@[go_sem 2000] theorem tbuild5 (k n:Int) (w:World):(Instr.build 101 #[(0,.int .i64 k),(3,.int .i64 n)]).run Try.prog w=.ok (.agg #[.int .i64 k,.string ⟨#[]⟩,.int .u64 0,.int .u64 0,.int .u64 0,.int .u64 0,.int .i64 n]) w:=run_build w _ _ _ (by kernel_rfl)
structure Tok where
 kd:Nat
 tx:ByteArray
 st:Set4
 pos:Nat
def Tok.row (t:Tok):List Value:=[.int .i64 (t.kd:Int),.string t.tx,.int .u64 (t.st.1:Int),.int .u64 (t.st.2.1:Int),.int .u64 (t.st.2.2.1:Int),.int .u64 (t.st.2.2.2:Int),.int .i64 (t.pos:Int)]
def tokV (t:Tok):Value:=.agg #[.int .i64 (t.kd:Int),.string t.tx,.int .u64 (t.st.1:Int),.int .u64 (t.st.2.1:Int),.int .u64 (t.st.2.2.1:Int),.int .u64 (t.st.2.2.2:Int),.int .i64 (t.pos:Int)]
def txtK (p:Nat):Option (ByteArray × Nat)->Option (Tok × Nat)
 | none=>none
 | some (u,m)=>some (⟨2,u,set0,p⟩,m)
def clsK (p:Nat):Option (Set4 × Nat)->Option (Tok × Nat)
 | none=>none
 | some (x,m)=>some (⟨3,⟨#[]⟩,x,p⟩,m)
def tkO (s:ByteArray) (p:Nat):Option (Tok × Nat) :=
 if letB (byt s p)=true then (if nmO s p<=12 then some (⟨1,s.extract p (p + nmO s p),set0,p⟩,p + nmO s p) else none)
 else if byt s p=34 then txtK p (txtO s (p:Int))
 else if byt s p=91 then clsK p (clsO s (p:Int))
 else if sgO s p=0 then none else some (⟨4,s.extract p (p + sgO s p),set0,p⟩,p + sgO s p)
def nextO (s:ByteArray) (k:Nat):Option (Tok × Nat):=if s.size<=skO s k then some (⟨0,⟨#[]⟩,set0,s.size⟩,s.size) else tkO s (skO s k)
def nextV (p:Nat):Option (Tok × Nat)->Value
 | none=>.tuple #[tokV ⟨0,⟨#[]⟩,set0,p⟩,.int .i64 (p:Int),.bool false]
 | some (t,m)=>.tuple #[tokV t,.int .i64 (m:Int),.bool true]
def nextT (s:ByteArray) (k:Nat):Value:=nextV (skO s k) (nextO s k)
theorem nextT_end {s:ByteArray} {k p:Nat} (h:skO s k=p) (hp:s.size<=p):nextT s k=.tuple #[tokV ⟨0,⟨#[]⟩,set0,s.size⟩,.int .i64 (s.size:Int),.bool true]:=by unfold nextT nextO;rw [h,if_pos hp];rfl
theorem nextT_in {s:ByteArray} {k p:Nat} (h:skO s k=p) (hp:¬ s.size<=p):nextT s k=nextV p (tkO s p):=by unfold nextT nextO;rw [h,if_neg hp]
end Go.Proofs.Ythddifjhoniacaa
