import Derived.Test.YthkdnehgamefiaaGreatHl
namespace Go.Proofs.YthkdnehgamefiaaGreat
set_option linter.unusedVariables false
set_option maxRecDepth 1000000
open Go.RowKit Go.Sort
theorem Rd.fin {w w3:World} {g N k0 k:Nat} {lo:Option Addr} {lc:Nat} {L:List Tok} {F0 F:Option (Int × Int)} (H0:Rd w g lo lc L k0 F0) (hN:w.heap.size<=N) (HU:But (fun j=>j=g) w w3) (H3:Rd w3 g lo lc L k F) (u0 u1 u2 u3 u4 u5 u6:Value) :
  But (fun j=>j=g) w (bI w3 N u0 u1 u2 u3 u4 u5 u6)/\Rd (bI w3 N u0 u1 u2 u3 u4 u5 u6) g lo lc L k F:=by
 have hU:But (fun j=>j=g) w (bI w3 N u0 u1 u2 u3 u4 u5 u6):=HU.trans (But.set7 w3 N u0 u1 u2 u3 u4 u5 u6) (fun j hj e=>by omega);have hg:=H0.1.lt;exact ⟨hU,H3.1.but (But.set7 w3 N u0 u1 u2 u3 u4 u5 u6) (by omega),H0.2.1.but H0.2.2 hU,H0.2.2⟩
theorem Ij {s:ByteArray} (h:bN s=true):s.size<=12:=by unfold bN at h;simp only [Bool.and_eq_true,decide_eq_true_eq] at h;omega
@[go_sem 2000] theorem C0f (k:Int) (t:ByteArray) (w:World):(Instr.build 32 #[(0,.int .i64 k),(1,.string t)]).run Tryz.prog w=.ok (.agg #[.int .i64 k,.string t,.int .u64 0,.int .u64 0,.int .u64 0,.int .u64 0,.slice none 0 0]) w:=by kernel_rfl
@[go_sem 2000] theorem C0i (k a b c d:Int) (w:World):(Instr.build 32 #[(0,.int .i64 k),(2,.agg #[.int .u64 a,.int .u64 b,.int .u64 c,.int .u64 d])]).run Tryz.prog w=.ok (.agg #[.int .i64 k,.string ⟨#[]⟩,.int .u64 a,.int .u64 b,.int .u64 c,.int .u64 d,.slice none 0 0]) w:=by kernel_rfl
@[go_sem 2000] theorem C0e (k:Int) (w:World):(Instr.build 32 #[(0,.int .i64 k)]).run Tryz.prog w=.ok (.agg #[.int .i64 k,.string ⟨#[]⟩,.int .u64 0,.int .u64 0,.int .u64 0,.int .u64 0,.slice none 0 0]) w:=by kernel_rfl
theorem MJ {L:List Tok} {k:Nat} (h:(tkA L k).kd ≠ 0):k < L.length:=by
 rcases Nat.lt_or_ge k L.length with h1 | h1
 · exact h1
 · rw [Ol h1] at h;exact absurd rfl h
theorem xB {L:List Tok} {k:Nat} {s:List UInt8} (h:isS L k s=true):k < L.length:=by unfold isS at h;rw [Bool.and_eq_true,beq_iff_eq] at h;exact MJ (by rw [h.1];decide)
theorem jU.below {w w':World} {g:Nat} {lo:Option Addr} {lc:Nat} {L:List Tok} {r:Rs} {D:Nat} {X:Ex} {ko:Option Addr} {w0:World} (h:jU w0 g lo lc L r D X ko w) (hb:Below w.heap.size w w'):jU w0 g lo lc L r D X ko w':=by
 cases r with
 | ok q =>
  obtain ⟨x,m⟩:=q;obtain ⟨h1,h2,n,h3⟩:=h;exact ⟨h1.below hb,h2,n,dD.but (But.of_below (S:=fun _=>False) hb) (fun _ h=>h.elim) h3⟩
 | error f =>
  obtain ⟨h1,k,h2⟩:=h;exact ⟨h1,k,h2.below hb⟩
theorem Rd.set7 {w w3:World} {g N k0:Nat} {lo:Option Addr} {lc:Nat} {L:List Tok} {r:Rs} {D D':Nat} {X:Ex} {ko:Option Addr} (H0:Rd w g lo lc L k0 none) (hN:w.heap.size<=N) (hD:N < D) (hD':D'<=D) (HU:But (fun j=>j=g) w w3)
  (h:jU w g lo lc L r D X ko w3) (u0 u1 u2 u3 u4 u5 u6:Value):But (fun j=>j=g) w (bI w3 N u0 u1 u2 u3 u4 u5 u6)/\jU w g lo lc L r D' X ko (bI w3 N u0 u1 u2 u3 u4 u5 u6):=by
 cases r with
 | ok q =>
  obtain ⟨x,m⟩:=q;obtain ⟨h1,rfl,n,h2⟩:=h;obtain ⟨a,b⟩:=Rd.fin (N:=N) H0 hN HU h1 u0 u1 u2 u3 u4 u5 u6;exact ⟨a,b,rfl,n,dD.low hD' (dD.but (But.set7 w3 N u0 u1 u2 u3 u4 u5 u6) (fun j hj=>by omega) h2)⟩
 | error f =>
  obtain ⟨h1,k,h2⟩:=h;obtain ⟨a,b⟩:=Rd.fin (N:=N) H0 hN HU h2 u0 u1 u2 u3 u4 u5 u6;exact ⟨a,h1,k,b⟩
end Go.Proofs.YthkdnehgamefiaaGreat
