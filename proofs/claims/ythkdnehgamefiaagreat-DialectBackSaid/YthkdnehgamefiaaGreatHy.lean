import Derived.Test.YthkdnehgamefiaaGreatHk
namespace Go.Proofs.YthkdnehgamefiaaGreat
set_option linter.unusedVariables false
set_option maxRecDepth 1000000
open Go.RowKit
@[go_sem] theorem eq4 (a b c d a' b' c' d':Int) (w:World) :
  (Op.equalIn 10000 29 (.agg #[.int .u64 a,.int .u64 b,.int .u64 c,.int .u64 d]) (.agg #[.int .u64 a',.int .u64 b',.int .u64 c',.int .u64 d'])).run Tryz.prog w=.ok (a == a' && b == b' && c == c' && d == d') w:=by
 have u3:=Tryz.underlying27;have a3:=Tryz.isAgg27;have z3:=Tryz.sizeOf27;rw [show (10000:Nat)=9999 + 1 from rfl,Op.equalIn];simp only [Sem.run_bind,run_underlying Tryz.underlying29,Result.andThen_ok];simp only [Std.Legacy.Range.forIn_eq_forIn_range',Std.Legacy.Range.size,Nat.sub_zero,Nat.add_sub_cancel,Nat.div_one,List.range'_succ,List.range'_zero,List.forIn_cons,List.forIn_nil];go_simp;by_cases h1:a=a' <;> by_cases h2:b=b' <;> by_cases h3:c=c' <;> by_cases h4:d=d' <;> simp [h1,h2,h3,h4]
def isZ (a b c d:Nat):Bool:=(a:Int) == 0 && (b:Int) == 0 && (c:Int) == 0 && (d:Int) == 0
@[go_sem 2000] theorem eqz (a b c d:Nat) (w:World) :
  (Op.equalIn 10000 29 (.agg #[.int .u64 (a:Int),.int .u64 (b:Int),.int .u64 (c:Int),.int .u64 (d:Int)]) (.agg #[.int .u64 0,.int .u64 0,.int .u64 0,.int .u64 0])).run Tryz.prog w=.ok (isZ a b c d) w:=eq4 a b c d 0 0 0 0 w
end Go.Proofs.YthkdnehgamefiaaGreat
