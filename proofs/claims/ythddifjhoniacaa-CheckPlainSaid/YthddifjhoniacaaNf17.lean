import Derived.Test.YthddifjhoniacaaGc
namespace Go.Proofs.Ythddifjhoniacaa
set_option linter.unusedVariables false
open Go.RowKit Go.Sort
theorem B9F {M M':Nat->Bool} (h:∀ n,M n=true->M' n=true) {L:List Nat} (hl:L.all M=true):L.all M'=true:=by rw [List.all_eq_true] at hl ⊢;exact fun x hx=>h x (hl x hx)
theorem A7u (gr:Gj):YC (tF gr):=fun M M' h n hn=>by
 unfold tF at hn ⊢
 cases hx:gr.ns[n]? with
 | none=>rw [hx] at hn;cases hn
 | some x =>
  rw [hx] at hn;have hn:(if x.op=6\/x.op=8\/x.op=9\/x.op=10 then true else if x.op=4\/x.op=7\/x.op=12 then x.ks.all M else if x.op=5 then x.ks.any M else if x.op=11 then M (bY gr n) else false)=true:=hn;show (if x.op=6\/x.op=8\/x.op=9\/x.op=10 then true else if x.op=4\/x.op=7\/x.op=12 then x.ks.all M' else if x.op=5 then x.ks.any M' else if x.op=11 then M' (bY gr n) else false)=true
  repeat' split at hn
  all_goals simp_all
  all_goals first | exact fun y hy=>h y (hn y hy) | (obtain ⟨y,hy,hm⟩:=hn;exact ⟨y,hy,h y hm⟩) | skip
theorem A0o (gr:Gj) (n:Nat) (hn:n < gr.ns.length):aZ gr n=tF gr (aZ gr) n:=by obtain ⟨h1,h2⟩:=Hl (A7u gr) gr.ns.length (gr.ns.length + 1) (fun _=>false) (by have:=iQ (fun _=>false) gr.ns.length;omega) (fun j h=>by cases h);rw [Bool.eq_iff_iff];exact ⟨h1 n,h2 n hn⟩
end Go.Proofs.Ythddifjhoniacaa
