import Derived.Test.YthkdnehgamefiaaGreatHx
namespace Go.Proofs.YthkdnehgamefiaaGreat
set_option linter.unusedVariables false
set_option maxRecDepth 1000000
open Go.RowKit Go.Sort
def mR (w:World) (R:Nat->Prop) (n:Nat) (ro:Option Addr) (l:List (ByteArray × Ex)):Prop:=∀ k x,l[k]?=some x->∃ b off ko kc,ro=some ⟨b,off,none⟩/\b < w.heap.size/\R b/\w.cell? ⟨b,off + k * 8,none⟩=some (.string x.1) ∧
 w.cell? ⟨b,off + k * 8 + 1,none⟩=some (.int .i64 x.2.op)/\w.cell? ⟨b,off + k * 8 + 2,none⟩=some (.string x.2.text)/\w.cell? ⟨b,off + k * 8 + 3,none⟩=some (.int .u64 x.2.s0)/\w.cell? ⟨b,off + k * 8 + 4,none⟩=some (.int .u64 x.2.s1) ∧
 w.cell? ⟨b,off + k * 8 + 5,none⟩=some (.int .u64 x.2.s2)/\w.cell? ⟨b,off + k * 8 + 6,none⟩=some (.int .u64 x.2.s3)/\w.cell? ⟨b,off + k * 8 + 7,none⟩=some (.slice ko x.2.kids.length kc)/\fM w R n ko x.2.kids
theorem mR.but {S R:Nat->Prop} {n:Nat} {w w':World} {ro:Option Addr} {l:List (ByteArray × Ex)} (h:mR w R n ro l) (hb:But S w w') (hS:∀ j,j < w.heap.size->R j->¬ S j):mR w' R n ro l:=fun k x hx=>by obtain ⟨b,off,ko,kc,e,hlt,hD,c0,c1,c2,c3,c4,c5,c6,c7,hk⟩:=h k x hx;have hn:¬ S b:=hS b hlt hD;exact ⟨b,off,ko,kc,e,aL hlt hb.size,hD,hb.cell hn c0,hb.cell hn c1,hb.cell hn c2,hb.cell hn c3,hb.cell hn c4,hb.cell hn c5,hb.cell hn c6,hb.cell hn c7,hk.but hb hS⟩
theorem mR.mono {R T:Nat->Prop} {n:Nat} {w:World} {ro:Option Addr} {l:List (ByteArray × Ex)} (h:mR w R n ro l) (hR:∀ b,b < w.heap.size->R b->T b):mR w T n ro l:=fun k x hx=>by obtain ⟨b,off,ko,kc,e,hlt,hD,c0,c1,c2,c3,c4,c5,c6,c7,hk⟩:=h k x hx;exact ⟨b,off,ko,kc,e,hlt,hR b hlt hD,c0,c1,c2,c3,c4,c5,c6,c7,hk.mono hR⟩
theorem mR.upto {R:Nat->Prop} {n:Nat} {w:World} {ro:Option Addr} {l:List (ByteArray × Ex)} (h:mR w R n ro l) (m:Nat) (hm:n<=m):mR w R m ro l:=fun k x hx=>by obtain ⟨b,off,ko,kc,e,hlt,hD,c0,c1,c2,c3,c4,c5,c6,c7,hk⟩:=h k x hx;exact ⟨b,off,ko,kc,e,hlt,hD,c0,c1,c2,c3,c4,c5,c6,c7,hk.upto m hm⟩
theorem mR.of {D n:Nat} {w:World} {ro:Option Addr} {l:List (ByteArray × Ex)} (h:sN w D n ro l):mR w (fun b=>D<=b/\b < w.heap.size) n ro l:=fun k x hx=>by obtain ⟨b,off,ko,kc,e,hlt,hD,c0,c1,c2,c3,c4,c5,c6,c7,hk⟩:=h k x hx;exact ⟨b,off,ko,kc,e,hlt,⟨hD,hlt⟩,c0,c1,c2,c3,c4,c5,c6,c7,fM.ofE hk⟩
theorem mR.to {R:Nat->Prop} {D n:Nat} {w:World} {ro:Option Addr} {l:List (ByteArray × Ex)} (h:mR w R n ro l) (hR:∀ b,R b->D<=b):sN w D n ro l:=fun k x hx=>by obtain ⟨b,off,ko,kc,e,hlt,hD,c0,c1,c2,c3,c4,c5,c6,c7,hk⟩:=h k x hx;exact ⟨b,off,ko,kc,e,hlt,hR b hD,c0,c1,c2,c3,c4,c5,c6,c7,hk.toE hR⟩
structure Mz where
 m:Md
 io:Option Addr
 ic:Nat
 ko:Option Addr
 kc:Nat
 ro:Option Addr
 rc:Nat
def iD (z:Mz):List Value:=[.string z.m.nm,.slice z.io z.m.im.length z.ic,.bool z.m.wet,.int .i64 z.m.wa.op,.string z.m.wa.text,.int .u64 z.m.wa.s0,.int .u64 z.m.wa.s1,.int .u64 z.m.wa.s2,.int .u64 z.m.wa.s3,.slice z.ko z.m.wa.kids.length z.kc,.slice z.ro z.m.ru.length z.rc]
theorem A0g:∀ (Z:List Mz) (k j:Nat) (z:Mz),Z[k]?=some z->j < 11->(Z.flatMap iD)[k * 11 + j]?=(iD z)[j]?
 | [],k,j,h,hk,hj=>by simp at hk
 | x :: L,0,j,h,hk,hj=>by simp at hk;subst hk;rw [List.flatMap_cons,List.getElem?_append_left (by show 0 * 11 + j < 11;omega),Nat.zero_mul,Nat.zero_add]
 | x :: L,k + 1,j,h,hk,hj=>by rw [List.flatMap_cons,List.getElem?_append_right (by show 11<=(k + 1) * 11 + j;omega),show (k + 1) * 11 + j - (iD x).length=k * 11 + j by show (k + 1) * 11 + j - 11=_;omega];exact A0g L k j h (by simpa using hk) hj
def MIn (w:World) (R:Nat->Prop) (n:Nat) (z:Mz):Prop:=nJ w R z.io z.m.im/\fM w R n z.ko z.m.wa.kids/\mR w R n z.ro z.m.ru/\z.m.im.length<=z.ic/\z.m.ru.length<=z.rc
theorem MIn.but {S R:Nat->Prop} {n:Nat} {w w':World} {z:Mz} (h:MIn w R n z) (hb:But S w w') (hS:∀ j,j < w.heap.size->R j->¬ S j):MIn w' R n z:=⟨h.1.but hb hS,h.2.1.but hb hS,h.2.2.1.but hb hS,h.2.2.2⟩
theorem MIn.mono {R T:Nat->Prop} {n:Nat} {w:World} {z:Mz} (h:MIn w R n z) (hR:∀ b,b < w.heap.size->R b->T b):MIn w T n z:=⟨h.1.mono hR,h.2.1.mono hR,h.2.2.1.mono hR,h.2.2.2⟩
theorem MIn.upto {R:Nat->Prop} {n:Nat} {w:World} {z:Mz} (h:MIn w R n z) (m:Nat) (hm:n<=m):MIn w R m z:=⟨h.1,h.2.1.upto m hm,h.2.2.1.upto m hm,h.2.2.2⟩
def MB (w:World) (D:Nat) (v:Value) (ML:List Md):Prop :=
 ∃ (S R:Nat->Prop) (Z:List Mz) (n:Nat),(∀ b,R b\/S b->D<=b/\b < w.heap.size)/\(∀ b,R b->¬ S b)/\Z.map (·.m)=ML/\Win S 35 11 w v Z.length (Z.flatMap iD)/\∀ z ∈ Z,MIn w R n z
theorem MB.start (w:World) (D:Nat):MB w D (.slice none 0 0) [] :=
 ⟨fun _=>False,fun _=>False,[],0,(fun b h=>by rcases h with h | h <;> cases h),(fun b h=>by cases h),rfl,Win.nil _ _ _ _,fun z hz=>absurd hz List.not_mem_nil⟩
theorem MB.below {w w':World} {D:Nat} {v:Value} {ML:List Md} (h:MB w D v ML) (hb:Below w.heap.size w w'):MB w' D v ML:=by obtain ⟨S,R,Z,n,h1,h2,h3,h4,h5⟩:=h;exact ⟨S,R,Z,n,fun b hb'=>⟨(h1 b hb').1,aL (h1 b hb').2 hb.size⟩,h2,h3,h4.below hb,fun z hz=>(h5 z hz).but (But.of_below (S:=fun _=>False) hb) fun _ _ _ h=>h⟩
theorem MB.form {w:World} {D:Nat} {v:Value} {ML:List Md} (h:MB w D v ML):∃ mo mc,v=.slice mo ML.length mc:=by obtain ⟨S,R,Z,n,h1,h2,rfl,h4,h5⟩:=h;obtain ⟨ao,cap,hv,-⟩:=h4.form;exact ⟨ao,cap,by rw [hv,List.length_map]⟩
theorem MB.add {w0 w1 w2 w3:World} {D n n':Nat} {v':Value} {S R:Nat->Prop} {Z:List Mz} {z:Mz} (hD:D<=w0.heap.size)
  (h1:∀ b,R b\/S b->D<=b/\b < w0.heap.size) (h2:∀ b,R b->¬ S b) (h5:∀ z ∈ Z,MIn w0 R n z)
  (hb1:Below w0.heap.size w0 w1) (hE:MIn w1 (fun b=>w0.heap.size<=b/\b < w1.heap.size) n' z) (hb2:Below w1.heap.size w1 w2)
  (hw:Win (fun b=>S b\/w2.heap.size<=b) 35 11 w3 v' (Z.length + 1) (Z.flatMap iD ++ iD z)) (hb3:But S w2 w3):MB w3 D v' (Z.map (·.m) ++ [z.m]):=by
 have s1:=hb1.size;have s2:=hb2.size;have s3:=hb3.size;refine ⟨fun b=>(S b\/w2.heap.size<=b)/\b < w3.heap.size,fun b=>R b\/(w0.heap.size<=b/\b < w1.heap.size),Z ++ [z],max n n',?_,?_,by simp,?_,?_⟩
 ·
  intro b hb;rcases hb with (hb | hb) | ⟨hb | hb,hlt⟩
  · have:=h1 b (.inl hb);omega
  · omega
  · have:=h1 b (.inr hb);omega
  · omega
 ·
  rintro b hb ⟨hs,hlt⟩;rcases hb with hb | hb
  ·
   rcases hs with hs | hs
   · exact h2 b hb hs
   · have:=h1 b (.inl hb);omega
  ·
   rcases hs with hs | hs
   · have:=h1 b (.inr hs);omega
   · omega
 ·
  rw [List.length_append,List.flatMap_append];have e:List.flatMap iD [z]=iD z:=by simp
  rw [e];exact hw.mono fun b hb hs=>⟨hs,hb⟩
 ·
  intro y hy;rw [List.mem_append,List.mem_singleton] at hy;rcases hy with hy | rfl
  · exact ((((h5 y hy).but (But.of_below (S:=fun _=>False) (hb1.trans (hb2.mono s1))) (fun _ _ _ h=>h)).but hb3 (fun j _ hj=>h2 j hj)).mono (fun b _ h=>.inl h)).upto _ (Nat.le_max_left _ _)
  · exact (((hE.but (But.of_below (S:=fun _=>False) hb2) (fun _ _ _ h=>h)).but hb3 (fun j _ hj hs=>by have:=h1 j (.inr hs);have hj1:w0.heap.size<=j:=hj.1;omega)).mono (fun b _ h=>.inr h)).upto _ (Nat.le_max_right _ _)
def fK (w:World) (D:Nat) (mo:Option Addr) (ML:List Md):Prop:=∃ n,∀ k m,ML[k]?=some m->∃ b off io ic ko kc ro rc,mo=some ⟨b,off,none⟩/\b < w.heap.size/\(D<=b/\m.im.length<=ic/\m.ru.length<=rc)/\w.cell? ⟨b,off + k * 11,none⟩=some (.string m.nm)/\w.cell? ⟨b,off + k * 11 + 1,none⟩=some (.slice io m.im.length ic) ∧
 w.cell? ⟨b,off + k * 11 + 2,none⟩=some (.bool m.wet)/\w.cell? ⟨b,off + k * 11 + 3,none⟩=some (.int .i64 m.wa.op)/\w.cell? ⟨b,off + k * 11 + 4,none⟩=some (.string m.wa.text)/\w.cell? ⟨b,off + k * 11 + 5,none⟩=some (.int .u64 m.wa.s0) ∧
 w.cell? ⟨b,off + k * 11 + 6,none⟩=some (.int .u64 m.wa.s1)/\w.cell? ⟨b,off + k * 11 + 7,none⟩=some (.int .u64 m.wa.s2)/\w.cell? ⟨b,off + k * 11 + 8,none⟩=some (.int .u64 m.wa.s3)/\w.cell? ⟨b,off + k * 11 + 9,none⟩=some (.slice ko m.wa.kids.length kc) ∧
 w.cell? ⟨b,off + k * 11 + 10,none⟩=some (.slice ro m.ru.length rc)/\nJ w (fun b=>D<=b) io m.im/\dD w D n ko m.wa.kids/\sN w D n ro m.ru
theorem fK.below {w w':World} {D:Nat} {mo:Option Addr} {ML:List Md} (h:fK w D mo ML) (hb:Below w.heap.size w w'):fK w' D mo ML:=by obtain ⟨n,h⟩:=h;refine ⟨n,fun k m hm=>?_⟩;obtain ⟨b,off,io,ic,ko,kc,ro,rc,e,hlt,hD,c0,c1,c2,c3,c4,c5,c6,c7,c8,c9,cA,q1,q2,q3⟩:=h k m hm;have hf:=But.of_below (S:=fun _=>False) hb;exact ⟨b,off,io,ic,ko,kc,ro,rc,e,aL hlt hb.size,hD,aC c0 hb,aC c1 hb,aC c2 hb,aC c3 hb,aC c4 hb,aC c5 hb,aC c6 hb,aC c7 hb,aC c8 hb,aC c9 hb,aC cA hb,q1.but hf (fun _ _ _ h=>h),dD.but hf (fun _ h=>h.elim) q2,q3.but hf (fun _ h=>h.elim)⟩
theorem MB.has {w:World} {D m c:Nat} {mo:Option Addr} {ML:List Md} (h:MB w D (.slice mo m c) ML):fK w D mo ML:=by
 obtain ⟨S,R,Z,n,h1,h2,rfl,h4,h5⟩:=h;refine ⟨n,fun k x hx=>?_⟩;have hk:k < Z.length:=by have:=(aS.1 hx).1;simpa using this
 obtain ⟨z,hz⟩:∃ z,Z[k]?=some z:=⟨_,aG hk⟩;obtain rfl:z.m=x:=by rw [List.getElem?_map,hz] at hx;simpa using hx
 obtain ⟨ao',cap,e1,_,_,hf⟩:=h4.form;injection e1 with e1 e2 e3;subst e1;have get:∀ j,j < 11->∃ g off,mo=some ⟨g,off,none⟩/\S g/\g < w.heap.size/\w.cell? ⟨g,off + (k * 11 + j),none⟩=(iD z)[j]?:=fun j hj=>by obtain ⟨g,off,e,hs,hg,hc,_⟩:=hf (k * 11 + j) (by omega);exact ⟨g,off,e,hs,hg,by rw [hc,A0g Z k j z hz hj]⟩
 obtain ⟨g,off,e,hs,hg,c0⟩:=get 0 (by omega);subst e;have get2:∀ j,j < 11->w.cell? ⟨g,off + (k * 11 + j),none⟩=(iD z)[j]?:=fun j hj=>by obtain ⟨g',off',e,_,_,hc⟩:=get j hj;injection e with e;injection e with e4 e5;subst e4 e5;exact hc
 obtain ⟨q1,q2,q3,q4⟩:=h5 z (aM hz);have hR:∀ b,R b->D<=b:=fun b hb=>(h1 b (.inl hb)).1;exact ⟨g,off,z.io,z.ic,z.ko,z.kc,z.ro,z.rc,rfl,hg,⟨(h1 g (.inr hs)).1,q4⟩,c0,get2 1 (by omega),get2 2 (by omega),get2 3 (by omega),get2 4 (by omega),get2 5 (by omega),get2 6 (by omega),get2 7 (by omega),get2 8 (by omega),get2 9 (by omega),get2 10 (by omega),q1.mono fun b _ hb=>hR b hb,q2.toE hR,q3.to hR⟩
end Go.Proofs.YthkdnehgamefiaaGreat
