import Derived.Test.YthddifjhoniacaaHp
import Derived.Test.YthddifjhoniacaaChecked
import Derived.ProofKit
import Derived.OpenShut
import Derived.KernelRfl
import Derived.Deep.Slices
namespace Go.Proofs.Ythddifjhoniacaa
set_option maxRecDepth 1000000
set_option linter.unusedVariables false
open Go.ChangeShapes Go.WideShapes Go.ChangeAt Go.RowKit Go.Deep
theorem cells_st:Try.prog.cellsOf 9=1:=by kernel_rfl
theorem adds_eq {b off:Nat} (i j:Nat):((⟨b,off,none⟩:Addr).add i).add j=⟨b,off + i + j,none⟩:=by rw [Addr.add_lit,Addr.add_lit]
section
variable {H:Type} {enc:TypeId × Value->H} {W:World} {sp:Nat->Bool} {held:Bool}
theorem lists_of {α:Type} {n:Nat} {P:Nat->α->Prop} (h:∀ k,k < n->∃ x,P k x):∃ L:List α,L.length=n/\∀ k x,L[k]?=some x->P k x:=by
 induction n with
 | zero=>exact ⟨[],rfl,fun k x h=>by simp at h⟩
 | succ n ih =>
  obtain ⟨L,hl,hL⟩:=ih fun k hk=>h k (by omega);obtain ⟨x,hx⟩:=h n (by omega);refine ⟨L ++ [x],by simp [hl],fun k y hk=>?_⟩;by_cases c:k < n
  · rw [List.getElem?_append_left (by omega)] at hk;exact hL k y hk
  · have hk':k < (L ++ [x]).length:=(aS.1 hk).1;simp at hk';obtain rfl:k=n:=(by omega);rw [List.getElem?_append_right (by omega),hl] at hk;simp at hk;subst hk;exact hx
theorem strs_of {f:Nat} (c:Value) (x:DataW H × List MemPlace) (h:DataW.trod enc Try.prog W 0 sp held f 22 [c]=some x) :
  ∃ (N:List ByteArray) (ao:Option Addr) (cap:Nat),c=.slice ao N.length cap/\HasN W ao N/\N.length<=maxLen:=by
 rcases DataW.trod_slice Try.underlying22 h with ⟨hcs,_⟩ | ⟨a,len,cap,elems,rest,n,hn,hcs,_,hb,hl,hm,hlen,hel,_,_⟩
 · simp at hcs;subst hcs;exact ⟨[],none,0,rfl,fun k x h=>by simp at h,Nat.zero_le _⟩
 ·
  simp at hcs;subst hcs hn;have hspot:0 < len->a.spot=none:=fun h0=>by have hk1:=hel 0 h0;rw [aG (by omega)] at hk1;obtain ⟨cs',hc,_⟩:=Option.bind_eq_some_iff.1 hk1;rw [cells_st] at hc;obtain ⟨_,hcl2,hat⟩:=World.cells?_some hc;have w0:=hat 0 (by omega);rw [aG (by omega)] at w0;have:=World.cell?_spot w0;simpa [Addr.add] using this
  have each:∀ k,k < len->∃ X:ByteArray,∃ g off,some a=some ⟨g,off,none⟩/\g < W.heap.size/\W.cell? ⟨g,off + k,none⟩=some (.string X):=fun k hk=>by
   have hk1:=hel k hk;rw [aG (by omega)] at hk1;obtain ⟨cs',hc,ht⟩:=Option.bind_eq_some_iff.1 hk1;rw [cells_st] at hc;obtain ⟨_,hcl2,hat⟩:=World.cells?_some hc
   match cs',hcl2 with
   | [c0],_ =>
    obtain ⟨s,hs0,_⟩:=DataW.trod_string Try.underlying9 ht;simp at hs0;subst hs0;have w0:=hat 0 (by omega);have hs:a.spot=none:=hspot (by omega);obtain ⟨b,off,spot⟩:=a;obtain rfl:spot=none:=hs;rw [show ((⟨b,off,none⟩:Addr).add (k * 1)).add 0=⟨b,off + k,none⟩ by rw [adds_eq];simp] at w0;exact ⟨s,b,off,rfl,World.block_lt_of_cell? W _ w0,w0⟩
  obtain ⟨L,hL,hk⟩:=lists_of each;exact ⟨L,some a,cap,by rw [hL],fun k X hX=>hk k X hX,by rw [hL];omega⟩
theorem open_strs {base:Nat} {v:Value} {d:DataW H} {p:List MemPlace} (hval:Value.okWide Try.prog W .any base 22 v) (h:DataW.Trod enc Try.prog W 0 sp held 22 v d p) :
  ∃ (N:List ByteArray) (ao:Option Addr) (cap:Nat),v=.slice ao N.length cap/\HasN W ao N/\N.length<=maxLen:=by
 obtain ⟨a0,len0,cap0,rfl⟩:=okWide_slice Try.underlying22 hval;obtain ⟨fuel,hf⟩:=h;exact strs_of _ _ (by simpa [Value.cells] using hf)
end
end Go.Proofs.Ythddifjhoniacaa
