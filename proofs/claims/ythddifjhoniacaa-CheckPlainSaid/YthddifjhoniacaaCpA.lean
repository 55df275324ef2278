import Derived.Test.YthddifjhoniacaaCl
namespace Go.Proofs.Ythddifjhoniacaa
set_option linter.unusedVariables false
open Go.RowKit Go.Sort
theorem A0B {NU:Nat->Bool} {op:Int} {ks:List Nat} {k:Nat}:(k:Int) ∈ Dp NU op ks ↔ k ∈ (if op=4 then eH NU ks else ks):=by
 unfold Dp;rw [kX];constructor
 ·
  rintro (h | h)
  · cases h
  · obtain ⟨j,hj,e⟩:=List.mem_map.1 h;have e:j=k:=(by omega);exact e ▸ hj
 · exact fun h=>.inr (List.mem_map.2 ⟨k,h,rfl⟩)
theorem Ar.ref {x:Nj} (h:Ar x) (h1:x.op=11):x.ks=[]:=by have hk:=h.kids;rw [h1] at hk;unfold dJ at hk;rw [if_pos (by decide)] at hk;exact List.eq_nil_of_length_eq_zero (beq_iff_eq.1 hk)
theorem A0C (NU:Nat->Bool) (op:Int):Dp NU op []=[]:=by unfold Dp;split <;> rfl
theorem BP {gr:Gj} {T:Nx} {nl n:Nat} {x:Nj} (hx:gr.ns[n]?=some x):jE gr T nl n=if x.op=11 then bT (Dp (aZ gr) x.op x.ks) (bY gr n:Int) else if x.op=13 then AX gr T nl n x.mo (Dp (aZ gr) x.op x.ks) else Dp (aZ gr) x.op x.ks:=by unfold jE;rw [hx]
theorem B4H {gr:Gj} {T:Nx} {nl n:Nat} {x:Nj} (hx:gr.ns[n]?=some x) (har:Ar x) (h1:x.op=11):jE gr T nl n=[(bY gr n:Int)]:=by rw [BP hx,if_pos h1,har.ref h1,A0C];rfl
theorem B3i {gr:Gj} {mo:Nat} {L:List Int} {y:Int} (h:y ∈ L):y ∈ A2g gr mo L:=by
 unfold A2g;split
 ·
  split
  · exact (lW _ _ _).2 (.inr h)
  · exact h
 · exact h
theorem A9L {gr:Gj} {T:Nx} {nl n mo:Nat} {L:List Int} {y:Int} (h:y ∈ L):y ∈ AX gr T nl n mo L:=by
 unfold AX;refine B3i ?_;split
 · exact (kX _ _ _).2 (.inl h)
 · exact h
theorem B4E {gr:Gj} {T:Nx} {nl n:Nat} {x:Nj} (hx:gr.ns[n]?=some x) {y:Int} (h:y ∈ Dp (aZ gr) x.op x.ks):y ∈ jE gr T nl n:=by
 rw [BP hx];split
 · exact (lW _ _ _).2 (.inr h)
 split
 · exact A9L h
 · exact h
theorem B4F {gr:Gj} {T:Nx} {nl n:Nat} {x:Nj} (hx:gr.ns[n]?=some x) {i k:Nat} (hk:x.ks[i]?=some k) (h:x.op ≠ 4\/i=0\/i=1/\∃ k0,x.ks[0]?=some k0/\aZ gr k0=true):(k:Int) ∈ jE gr T nl n:=by
 refine B4E hx (A0B.2 ?_);by_cases h4:x.op=4
 ·
  rw [if_pos h4];rcases h with h | rfl | ⟨rfl,k0,h0,hn⟩
  · exact absurd h4 h
  ·
   cases hks:x.ks with
   | nil=>rw [hks] at hk;simp at hk
   | cons z r =>
    rw [hks] at hk;simp at hk;subst hk;unfold eH;split <;> simp
  ·
   cases hks:x.ks with
   | nil=>rw [hks] at hk;simp at hk
   | cons z r =>
    rw [hks] at hk h0;simp at hk h0;subst h0;unfold eH;rw [if_pos hn]
    cases r with
    | nil=>simp at hk
    | cons u r =>
     simp at hk;subst hk;refine List.mem_cons_of_mem _ ?_;unfold eH;split <;> simp
 · rw [if_neg h4];exact aM hk
end Go.Proofs.Ythddifjhoniacaa
