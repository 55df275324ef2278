import Derived.Test.YthddifjhoniacaaLx
import Derived.Test.YthddifjhoniacaaLdC
import Derived.Test.YthddifjhoniacaaEmR
namespace Go.Proofs.Ythddifjhoniacaa
set_option linter.unusedVariables false
open Go.RowKit Go.Sort
def orL (a b:List Int):List Int:=b.foldl bT a
theorem kX:∀ (b a:List Int) (y:Int),y ∈ orL a b ↔ y ∈ a\/y ∈ b
 | [],a,y=>by simp [orL]
 | x :: r,a,y=>by
  show y ∈ orL (bT a x) r ↔ _;rw [kX r (bT a x) y,lW x a y,List.mem_cons];constructor
  ·
   rintro ((h | h) | h)
   · exact .inr (.inl h)
   · exact .inl h
   · exact .inr (.inr h)
  ·
   rintro (h | h | h)
   · exact .inl (.inr h)
   · exact .inl (.inl h)
   · exact .inr h
theorem gF.or:∀ (b:List Int) {a:List Int},gF a->gF (orL a b)
 | [],_,h=>h
 | x :: r,_,h=>gF.or r (h.put x)
theorem JM {a b:List Int} {k:Nat} {x:Int} (h:b[k]?=some x):orL a (b.drop k)=orL (bT a x) (b.drop (k + 1)):=by obtain ⟨h1,h2⟩:=aS.1 h;rw [List.drop_eq_getElem_cons h1,h2];rfl
theorem gF.room {N:Nat} {L:List Int} (h:gF L) (hr:∀ x ∈ L,0<=x/\x < (N:Int)):L.length<=N:=by have:=gF.len (N:=N) L 0 h (fun y hy=>by have:=hr y hy;omega) (Nat.zero_le _);omega
structure Bk (w:World) (E p u q C:Nat) (lo:Option Addr) (lc:Nat) (gr:Gj) (a:Gv) (LD:Nx) (T:Nx):Prop where
 ep:E<=p
 eq:E<=q
 pq:p ≠ q
 up:u ≠ p
 uq:u ≠ q
 pc:p < C
 qc:q < C
 own:Own w p 61 [.slice a.mo gr.ms.length a.mc,.slice a.no gr.ns.length a.nc,.slice a.ho gr.hs.length a.hc,.slice a.wo gr.ws.length a.wc,.int .i64 gr.st,.slice (some ⟨u,0,none⟩) gr.ns.length gr.ns.length,.slice lo gr.ns.length lc,.slice (some ⟨q,0,none⟩) gr.ns.length gr.ns.length]
 nu:Own w u 4 (bZ (aZ gr) gr.ns.length)
 nx:∃ V:Nat->Value,Own w q 23 ((List.range gr.ns.length).map V)/\∀ k,k < gr.ns.length->aO w C (V k) (T k)
 ld:∀ k,k < gr.ns.length->∃ b off v,lo=some ⟨b,off,none⟩/\b < w.heap.size/\C<=b/\w.cell? ⟨b,off + k,none⟩=some v/\aO w C v (LD k)
 hg:mG w (fun b=>b < E) gr a
 ok:∀ k,gF (T k)/\∀ x ∈ T k,0<=x/\x < (gr.ns.length:Int)
 sz:C<=w.heap.size
section
variable {w w':World} {E p u q C:Nat} {lo:Option Addr} {lc:Nat} {gr:Gj} {a:Gv} {LD:Nx} {T:Nx}
theorem Bk.below (h:Bk w E p u q C lo lc gr a LD T) (hb:Below w.heap.size w w'):Bk w' E p u q C lo lc gr a LD T:=by
 obtain ⟨V,h1,h2⟩:=h.nx
 exact ⟨h.ep,h.eq,h.pq,h.up,h.uq,h.pc,h.qc,h.own.under hb h.own.lt,h.nu.under hb h.nu.lt,⟨V,h1.under hb h1.lt,fun k hk=>(h2 k hk).below hb⟩,
  fun k hk=>by obtain ⟨b,off,v,e,h3,h4,h5,h6⟩:=h.ld k hk;exact ⟨b,off,v,e,aL h3 hb.size,h4,aC h5 hb,h6.below hb⟩,h.hg.below hb,h.ok,Nat.le_trans h.sz hb.size⟩
theorem Bk.len (h:Bk w E p u q C lo lc gr a LD T) (k:Nat):(T k).length<=gr.ns.length:=(h.ok k).1.room (h.ok k).2
theorem Bk.set (h:Bk w E p u q C lo lc gr a LD T) {n:Nat} {L:List Int} {v:Value} (hL:gF L/\∀ x ∈ L,0<=x/\x < (gr.ns.length:Int)) (hv:aO w C v L):Bk (w.setCell ⟨q,n,none⟩ v) E p u q C lo lc gr a LD (iM T n L):=by
 have hb:But (fun j=>j=q) w (w.setCell ⟨q,n,none⟩ v):=But.put w q n v;have hI:∀ {v':Value} {L:List Int},aO w C v' L->aO (w.setCell ⟨q,n,none⟩ v) C v' L:=fun hi=>hi.but hb (fun b hc _ e=>by have:=h.qc;have e:b=q:=e;omega);obtain ⟨V,h1,h2⟩:=h.nx;refine ⟨h.ep,h.eq,h.pq,h.up,h.uq,h.pc,h.qc,h.own.but hb h.pq,h.nu.but hb h.uq,⟨fun j=>if j=n then v else V j,?_,fun k hk=>?_⟩,fun k hk=>?_,?_,fun k=>?_,Nat.le_trans h.sz hb.size⟩
 ·
  have h3:=h1.put n v;have e:((List.range gr.ns.length).map V).set n v=(List.range gr.ns.length).map (fun j=>if j=n then v else V j):=by
   apply List.ext_getElem?;intro i;rw [List.getElem?_set,List.getElem?_map,List.getElem?_map,List.length_map,List.length_range];by_cases hi:i < gr.ns.length
   ·
    rw [List.getElem?_range hi];by_cases e:n=i
    · subst e;simp [hi]
    · simp [e,Ne.symm e]
   ·
    rw [List.getElem?_eq_none (by simpa using hi)];by_cases e:n=i
    · subst e;simp [hi]
    · simp [e]
  rw [e] at h3;exact h3
 ·
  show aO _ C (if k=n then v else V k) (iM T n L k);unfold iM;by_cases e:k=n
  · rw [if_pos e,if_pos e];exact hI hv
  · rw [if_neg e,if_neg e];exact hI (h2 k hk)
 · obtain ⟨b,off,v',e,h3,h4,h5,h6⟩:=h.ld k hk;exact ⟨b,off,v',e,aL h3 hb.size,h4,hb.cell (fun e=>by have:=h.qc;have e:b=q:=e;omega) h5,hI h6⟩
 · exact h.hg.but hb (fun j _ hj e=>by have:=h.eq;have e:j=q:=e;omega)
 ·
  unfold iM;split
  · exact hL
  · exact h.ok k
end
end Go.Proofs.Ythddifjhoniacaa
