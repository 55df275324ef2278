import Derived.Test.YthkdnehgamefiaaGreatHs
namespace Go.Proofs.YthkdnehgamefiaaGreat
set_option linter.unusedVariables false
set_option maxRecDepth 1000000
section
variable {P:Program} {ops:Array Oper} {Q:Exit->Act->World->Prop} {md:Region.Mode} {S:World->Prop}
theorem bB {i:Nat} {o:Oper} {a:Act} {w:World} {K:Act->World->Prop} {f:FuncId} {vs:Array Value} (e:ops[i]?=some o) (hg:Region.wanted o (yielded ops a.tmps)=true) (hrun:(execOp a.eval o).run P w=.ok (.enter f vs) w)
  (hc:Calls P f vs w fun e w'=>∃ v,e=.returned v/\K (a.put o.dst v) w'):wpOp P ops Q i K a w:=by
 unfold wpOp;rw [e];simp only [];rw [if_pos hg];refine .inl ?_;unfold Oper.wp;rw [hrun];show Calls P f vs w _;exact hc.mono fun e w' ⟨v,he,hk⟩=>by subst he;exact hk
theorem aY {i:Nat} {o:Oper} {a:Act} {w w':World} {K:Act->World->Prop} {v:Value} (e:ops[i]?=some o) (hg:Region.wanted o (yielded ops a.tmps)=true) (hrun:(execOp a.eval o).run P w=.ok (.value v) w')
  (hK:K (a.put o.dst v) w'):wpOp P ops Q i K a w:=by
 unfold wpOp;rw [e];simp only [];rw [if_pos hg];refine .inl ?_;unfold Oper.wp;rw [hrun];exact hK
theorem eX {i:Nat} {o:Oper} {a:Act} {w w':World} {K:Act->World->Prop} (e:ops[i]?=some o) (hg:Region.wanted o (yielded ops a.tmps)=true) (t:TypeId) (x y:Operand) (hop:o.op=Op.store t x y) (p v:Value) (hx:a.eval x=p) (hy:a.eval y=v)
  (hrun:(Instr.storeAt t p v).run P w=.ok () w') (hK:K (a.put o.dst undef) w'):wpOp P ops Q i K a w:=by
 unfold wpOp;rw [e];simp only [];rw [if_pos hg];refine .inl ?_;unfold Oper.wp;simp [execOp,hop,hx,hy,hrun,Result.andThen];exact hK
end
open Go.RowKit Go.Sort
@[go_sem 2000] theorem C0h (k:Int) (t:ByteArray) (A:Option Addr) (n c:Nat) (w:World):(Instr.build 32 #[(0,.int .i64 k),(1,.string t),(3,.slice A n c)]).run Tryz.prog w=.ok (.agg #[.int .i64 k,.string t,.int .u64 0,.int .u64 0,.int .u64 0,.int .u64 0,.slice A n c]) w:=by kernel_rfl
end Go.Proofs.YthkdnehgamefiaaGreat
