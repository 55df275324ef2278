import Derived.Test.YthkdnehgamefiaaGreatJpB
namespace Go.Proofs.YthkdnehgamefiaaGreat
set_option linter.unusedVariables false
open Go.RowKit Go.Sort
@[go_sem 2000] theorem nbuildp (o k m r a b c d:Int) (t:ByteArray) (w:World):(Instr.build 62 #[(0,.int .i64 o),(1,.string t),(2,.agg #[.int .u64 a,.int .u64 b,.int .u64 c,.int .u64 d]),(4,.int .i64 k),(5,.int .i64 m),(6,.int .i64 r)]).run Tryz.prog w=.ok (.agg #[.int .i64 o,.string t,.int .u64 a,.int .u64 b,.int .u64 c,.int .u64 d,.slice none 0 0,.int .i64 k,.int .i64 m,.int .i64 r]) w:=run_build w _ _ _ (by kernel_rfl)
set_option maxRecDepth 1000000 in
set_option maxHeartbeats 1600000 in
theorem pstop_any {w0 w:World} {g:Nat} {c:Nat->Nat} {rows:Rw} {v:Nat->Value} {lv:Value} {st:Int} (k m r:Int) (hk:k ≠ 0) (h:Wp w0 w g c rows v lv st none) :
  Calls Tryz.prog 51 #[.pointer (some ⟨g,0,none⟩),.int .i64 k,.int .i64 m,.int .i64 r] w fun e w'=>e=.returned (.bool false)/\Wp w0 w' g c rows v lv st (some (k,m,r))/\But (fun j=>j=g) w w':=by
 have ho:Own w g 68 [lv,v 5,v 1,v 2,v 3,v 4,.int .i64 st,.int .i64 0,.int .i64 0,.int .i64 0,.int .i64 0]:=h.own;obtain ⟨-,-,-,-,-,-,-,c7,c8,c9,cA⟩:=ho.elev;obtain ⟨-,-,-,-,-,-,-,d7,d8,d9,dA⟩:=ho.elevf;have hg:=ho.lt;have HF:=aH (h.fault (k,m,r) hk);clear h ho;go_enter Tryz.func51,Tryz.ntmps51;go_wp2;go_ret;exact ⟨rfl,HF.o.1,HF.o.2⟩
end Go.Proofs.YthkdnehgamefiaaGreat
