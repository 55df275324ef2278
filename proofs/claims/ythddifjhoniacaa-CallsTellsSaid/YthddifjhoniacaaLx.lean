import Derived.Test.YthddifjhoniacaaMa
import Derived.Test.YthddifjhoniacaaGc
import Derived.Test.YthddifjhoniacaaMc
import Derived.Test.YthddifjhoniacaaSa
namespace Go.Proofs.Ythddifjhoniacaa
set_option linter.unusedVariables false
open Go.RowKit Go.Sort
theorem ledB_mono (gr:Gj) (NU:Nat->Bool):MonoB (ledB gr NU):=fun M M' h n hn=>by
 unfold ledB at hn ⊢
 cases hx:gr.ns[n]? with
 | none=>rw [hx] at hn;cases hn
 | some x =>
  rw [hx] at hn;have hn:(if x.op=13 then true else if x.op=9\/x.op=10 then false else if x.op=11 then M (bodyG gr n) else if x.op=4 then (frontL NU x.ks).any M else x.ks.any M)=true:=hn;show (if x.op=13 then true else if x.op=9\/x.op=10 then false else if x.op=11 then M' (bodyG gr n) else if x.op=4 then (frontL NU x.ks).any M' else x.ks.any M')=true;by_cases h1:x.op=13
  · rw [if_pos h1]
  rw [if_neg h1] at hn ⊢;by_cases h2:x.op=9\/x.op=10
  · rw [if_pos h2] at hn;cases hn
  rw [if_neg h2] at hn ⊢;by_cases h3:x.op=11
  · rw [if_pos h3] at hn ⊢;exact h _ hn
  rw [if_neg h3] at hn ⊢;by_cases h4:x.op=4
  · rw [if_pos h4] at hn ⊢;exact any_monoB h hn
  · rw [if_neg h4] at hn ⊢;exact any_monoB h hn
theorem ledG_fix (gr:Gj) (n:Nat) (hn:n < gr.ns.length):ledG gr n=ledB gr (nulG gr) (ledG gr) n:=by obtain ⟨h1,h2⟩:=leastB_end (ledB_mono gr (nulG gr)) gr.ns.length (gr.ns.length + 1) (fun _=>false) (by have:=lackB_le (fun _=>false) gr.ns.length;omega) (fun j h=>by cases h);rw [Bool.eq_iff_iff];exact ⟨h1 n,h2 n hn⟩
theorem visF_lack (gr:Gj) (d n:Nat) (s:Fst) (N:Nat):lackB (visF gr d n s).1 N<=lackB s.1 N:=lackB_mono (visF_more gr d n s) N
structure Fnd (gr:Gj) (A:Nat->Prop) (s:Fst):Prop where
 all:∀ j,s.1 j=true->A j
 o:∀ x,x ∈ s.2 ↔ ∃ j:Nat,x=(j:Int)/\s.1 j=true/\termB gr j=true
 ris:RisL s.2
theorem visF_fnd (gr:Gj) (A:Nat->Prop) (hA:∀ n,A n->∀ k ∈ nextL gr n,A k):∀ (d n:Nat) (s:Fst),A n->Fnd gr A s->Fnd gr A (visF gr d n s)
 | 0,n,s,_,h=>h
 | d + 1,n,s,hn,h=>by
  unfold visF;split
  · exact h
  ·
   next hm =>
   refine eachF_inl (T:=A) (Fnd gr A) (fun k t hk ht=>visF_fnd gr A hA d k t hk ht) _ _ (hA n hn) ⟨fun j hj=>?_,fun x=>?_,?_⟩
   ·
    have hj:setB s.1 n j=true:=hj;unfold setB at hj;split at hj
    · next e=>rw [e];exact hn
    · exact h.all j hj
   ·
    show x ∈ (if termB gr n=true then putL s.2 (n:Int) else s.2) ↔ ∃ j:Nat,x=(j:Int)/\setB s.1 n j=true/\termB gr j=true;by_cases ht:termB gr n=true
    ·
     rw [if_pos ht,putL_mem,h.o];constructor
     ·
      rintro (e | ⟨j,e,h1,h2⟩)
      · exact ⟨n,e,by unfold setB;rw [if_pos rfl],ht⟩
      · exact ⟨j,e,setB_more _ _ _ h1,h2⟩
     ·
      rintro ⟨j,e,h1,h2⟩;by_cases ej:j=n
      · subst ej;exact .inl e
      · exact .inr ⟨j,e,by unfold setB at h1;rwa [if_neg ej] at h1,h2⟩
    ·
     rw [if_neg ht,h.o];constructor
     · rintro ⟨j,e,h1,h2⟩;exact ⟨j,e,setB_more _ _ _ h1,h2⟩
     ·
      rintro ⟨j,e,h1,h2⟩;by_cases ej:j=n
      · subst ej;exact absurd h2 ht
      · exact ⟨j,e,by unfold setB at h1;rwa [if_neg ej] at h1,h2⟩
   ·
    show RisL (if termB gr n=true then putL s.2 (n:Int) else s.2);split
    · exact h.ris.put _
    · exact h.ris
theorem visF_clo (gr:Gj) (N:Nat) (hN:∀ n,n < N->∀ k ∈ nextL gr n,k < N):∀ (d n:Nat) (s:Fst),n < N->lackB s.1 N < d->(visF gr d n s).1 n=true/\∀ j,(visF gr d n s).1 j=true->s.1 j=true\/∀ k ∈ nextL gr j,(visF gr d n s).1 k=true
 | 0,n,s,_,h=>by omega
 | d + 1,n,s,hn,h=>by
  unfold visF;by_cases hm:s.1 n=true
  · rw [if_pos hm];exact ⟨hm,fun j hj=>.inl hj⟩
  ·
   rw [if_neg hm];have hm0:s.1 n=false:=(by simpa using hm);have hl:=lackB_step hn hm0 h;generalize hF:(if termB gr n=true then putL s.2 (n:Int) else s.2)=F;clear hF;have key:∀ (L:List Nat) (t:Fst),(∀ k ∈ L,k < N)->lackB t.1 N < d->(∀ j,t.1 j=true->(eachF (visF gr d) L t).1 j=true)/\(∀ k ∈ L,(eachF (visF gr d) L t).1 k=true)/\∀ j,(eachF (visF gr d) L t).1 j=true->t.1 j=true\/∀ k ∈ nextL gr j,(eachF (visF gr d) L t).1 k=true:=by
    intro L
    induction L with
    | nil=>exact fun t _ _=>⟨fun j hj=>hj,fun k hk=>(by cases hk),fun j hj=>.inl hj⟩
    | cons a r ih =>
     intro t hL ht;obtain ⟨h1,h2⟩:=visF_clo gr N hN d a t (hL a (List.mem_cons_self ..)) ht;obtain ⟨h3,h4,h5⟩:=ih (visF gr d a t) (fun k hk=>hL k (List.mem_cons_of_mem _ hk)) (Nat.lt_of_le_of_lt (visF_lack gr d a t N) ht);refine ⟨fun j hj=>h3 j (visF_more gr d a t j hj),fun k hk=>?_,fun j hj=>?_⟩
     ·
      rcases List.mem_cons.1 hk with rfl | hk
      · exact h3 _ h1
      · exact h4 k hk
     ·
      rcases h5 j hj with h6 | h6
      ·
       rcases h2 j h6 with h7 | h7
       · exact .inl h7
       · exact .inr fun k hk=>h3 k (h7 k hk)
      · exact .inr h6
   obtain ⟨h3,h4,h5⟩:=key (nextL gr n) (setB s.1 n,F) (hN n hn) hl;refine ⟨h3 n (by show setB s.1 n n=true;unfold setB;rw [if_pos rfl]),fun j hj=>?_⟩;rcases h5 j hj with h6 | h6
   ·
    have h6:setB s.1 n j=true:=h6;by_cases e:j=n
    · subst e;exact .inr h4
    · unfold setB at h6;rw [if_neg e] at h6;exact .inl h6
   · exact .inr h6
theorem leadG_mem {gr:Gj} (hN:∀ n,n < gr.ns.length->∀ k ∈ nextL gr n,k < gr.ns.length) {n:Nat} (hn:n < gr.ns.length):RisL (leadG gr n)/\∀ x,x ∈ leadG gr n ↔ ∃ j:Nat,x=(j:Int)/\Rch gr n j/\termB gr j=true:=by
 have h1:=visF_fnd gr (Rch gr n) (fun y hy k hk=>hy.tail hk) (gr.ns.length + 1) n (fun _=>false,[]) (.refl n) ⟨fun j hj=>(by cases hj),fun x=>⟨fun h=>(by cases h),fun ⟨j,_,h,_⟩=>(by cases h)⟩,trivial⟩;obtain ⟨h2,h3⟩:=visF_clo gr gr.ns.length hN (gr.ns.length + 1) n (fun _=>false,[]) hn (by have:=lackB_le (fun _=>false) gr.ns.length;show lackB (fun _=>false) gr.ns.length < _;omega);refine ⟨h1.ris,fun x=>?_⟩;unfold leadG;rw [h1.o];have hclo:∀ a j,Rch gr a j->(visF gr (gr.ns.length + 1) n (fun _=>false,[])).1 a=true->(visF gr (gr.ns.length + 1) n (fun _=>false,[])).1 j=true:=by
  intro a j h
  induction h with
  | refl a=>exact fun h=>h
  | step hk _ ih =>
   intro ha;rcases h3 _ ha with h4 | h4
   · cases h4
   · exact ih (h4 _ hk)
 constructor
 · rintro ⟨j,e,hj,ht⟩;exact ⟨j,e,h1.all j hj,ht⟩
 · rintro ⟨j,e,hj,ht⟩;exact ⟨j,e,hclo n j hj h2,ht⟩
theorem nextL_in {gr:Gj} (hg:Good gr):∀ n,n < gr.ns.length->∀ k ∈ nextL gr n,k < gr.ns.length:=fun n hn=>nextL_lt hg (fun _ h=>bodyG_lt hg h) hn
theorem term_ops {gr:Gj} {n:Nat} {x:Nj} (hx:gr.ns[n]?=some x) (ha:Ar x) (h:termB gr n=true):ledG gr n=false/\(x.op=1\/x.op=2\/x.op=3\/x.op=4\/x.op=5):=by
 rw [termB_eq hx] at h;have hn:=(aS.1 hx).1;have hk:=ha.kids;split at h
 · cases h
 next ho =>
 cases hq:ledG gr n with
 | false =>
  refine ⟨rfl,?_⟩;rw [hq] at h;unfold kidsB at hk;by_cases h4:x.op=4
  · omega
  by_cases h5:x.op=5
  · omega
  have he:x.ks=[]:=by simpa [h4,h5] using h
  rw [he] at hk;by_cases h1:x.op=1\/x.op=2\/x.op=3\/x.op=11
  · omega
  · exfalso;rw [if_neg h1,if_neg (by omega)] at hk;split at hk <;> simp at hk
 | true =>
  exfalso;rw [hq] at h;have he:x.ks=[]:=by simpa using h
  have hf:=ledG_fix gr n hn;rw [hq] at hf;unfold ledB at hf;rw [hx] at hf;have hf:true=(if x.op=13 then true else if x.op=9\/x.op=10 then false else if x.op=11 then ledG gr (bodyG gr n) else if x.op=4 then (frontL (nulG gr) x.ks).any (ledG gr) else x.ks.any (ledG gr)):=hf;rw [he] at hf hk;by_cases h13:x.op=13
  · rw [h13] at hk;revert hk;decide
  · rw [if_neg h13,if_neg (fun e=>ho (.inr e)),if_neg (fun e=>ho (.inl e))] at hf;split at hf <;> simp [frontL] at hf
theorem Rch.lt {gr:Gj} (hN:∀ n,n < gr.ns.length->∀ k ∈ nextL gr n,k < gr.ns.length) {n j:Nat} (h:Rch gr n j):n < gr.ns.length->j < gr.ns.length:=by
 induction h with
 | refl n=>exact fun h=>h
 | step hk _ ih=>exact fun h=>ih (hN _ h _ hk)
theorem leadI_eq {gr:Gj} {n:Nat} (hn:n < gr.ns.length):leadI gr (n:Int)=leadG gr n:=by unfold leadI;rw [if_pos (by omega),Int.toNat_natCast]
theorem lead_ops {gr:Gj} (hg:Good gr) (har:∀ x ∈ gr.ns,Ar x) {n:Nat} (hn:n < gr.ns.length):RisL (leadI gr (n:Int))/\∀ y ∈ leadI gr (n:Int),∃ j x,y=((j:Nat):Int)/\gr.ns[j]?=some x/\ledG gr j=false/\(x.op=1\/x.op=2\/x.op=3\/x.op=4\/x.op=5):=by rw [leadI_eq hn];obtain ⟨h1,h2⟩:=leadG_mem (nextL_in hg) hn;refine ⟨h1,fun y hy=>?_⟩;obtain ⟨j,e,hr,ht⟩:=(h2 y).1 hy;have hj:=hr.lt (nextL_in hg) hn;obtain ⟨x,hx⟩:∃ x,gr.ns[j]?=some x:=⟨_,aG hj⟩;obtain ⟨q1,q2⟩:=term_ops hx (har x (aM hx)) ht;exact ⟨j,x,e,hx,q1,q2⟩
def Rn (gr:Gj) (x:Int):Prop:=∃ i:Nat,x=(i:Int)/\i < gr.ns.length/\ledG gr i=false
theorem lead_out {gr:Gj} {j:Nat} (h:gr.ns.length<=j):leadG gr j=[]:=by
 have hn:gr.ns[j]?=none:=List.getElem?_eq_none h;have h1:nextL gr j=[]:=by unfold nextL;rw [hn]
 have h2:termB gr j=false:=by unfold termB;rw [hn]
 unfold leadG;rw [visF_go rfl,h1,h2];rfl
theorem lead_rn {gr:Gj} (hg:Good gr) (har:∀ x ∈ gr.ns,Ar x) (j:Nat):RisL (leadG gr j)/\∀ x ∈ leadG gr j,Rn gr x:=by
 by_cases hj:j < gr.ns.length
 · obtain ⟨h1,h2⟩:=lead_ops hg har hj;rw [leadI_eq hj] at h1 h2;refine ⟨h1,fun x hx=>?_⟩;obtain ⟨i,y,e,hy,hl,-⟩:=h2 x hx;exact ⟨i,e,(aS.1 hy).1,hl⟩
 · rw [lead_out (by omega)];exact ⟨trivial,fun x hx=>(by cases hx)⟩
theorem Rn.rng {gr:Gj} {x:Int} (h:Rn gr x):0<=x/\x < (gr.ns.length:Int):=by obtain ⟨i,e,h1,-⟩:=h;omega
theorem lead_bd {gr:Gj} (hg:Good gr) (har:∀ x ∈ gr.ns,Ar x) (j:Nat):((leadG gr j).length:Int)<=1000/\∀ x ∈ leadG gr j,0<=x/\x < (gr.ns.length:Int):=by obtain ⟨h1,h2⟩:=lead_rn hg har j;have h3:=RisL.len (N:=gr.ns.length) (leadG gr j) 0 h1 (fun y hy=>by have:=(h2 y hy).rng;omega) (Nat.zero_le _);have:=hg.len;exact ⟨by omega,fun x hx=>(h2 x hx).rng⟩
theorem beh_to (NU:Nat->Bool) (n k:Nat):∀ (r:List Nat) (a:ActN),a ∈ behA NU n k r->a.1=k
 | [],a,h=>by have h:a ∈ [((k,false,n):ActN)]:=h;rw [List.mem_singleton] at h;rw [h]
 | b :: r,a,h=>by
  have h:a ∈ ((k,true,b):ActN) :: (if NU b=true then behA NU n k r else []):=h;rcases List.mem_cons.1 h with e | h
  · rw [e]
  ·
   split at h
   · exact beh_to NU n k r a h
   · cases h
theorem row_to (NU:Nat->Bool) (n:Nat):∀ (L:List Nat) (a:ActN),a ∈ rowA NU n L->a.1 ∈ L
 | [],a,h=>by cases h
 | k :: r,a,h=>by
  rcases List.mem_append.1 h with h | h
  · rw [beh_to NU n k r a h];exact List.mem_cons_self ..
  · exact List.mem_cons_of_mem _ (row_to NU n r a h)
theorem actG_eq {gr:Gj} {NU:Nat->Bool} {n:Nat} {x:Nj} (hx:gr.ns[n]?=some x):actG gr NU n=(if x.op=9\/x.op=10 then [] else if x.op=11 then [((bodyG gr n,false,n):ActN)] else if x.op=4 then rowA NU n x.ks else if x.op=6\/x.op=7 then x.ks.flatMap (fun k=>[((k,true,k):ActN),(k,false,n)]) else x.ks.map (fun k=>((k,false,n):ActN))):=by unfold actG;rw [hx]
theorem actG_to {gr:Gj} {NU:Nat->Bool} {n:Nat} {x:Nj} (hx:gr.ns[n]?=some x) {a:ActN} (ha:a ∈ actG gr NU n):(x.op=11/\a.1=bodyG gr n)\/(x.op ≠ 11/\a.1 ∈ x.ks):=by
 rw [actG_eq hx] at ha;by_cases h1:x.op=9\/x.op=10
 · rw [if_pos h1] at ha;cases ha
 rw [if_neg h1] at ha;by_cases h2:x.op=11
 · rw [if_pos h2,List.mem_singleton] at ha;exact .inl ⟨h2,by rw [ha]⟩
 rw [if_neg h2] at ha;refine .inr ⟨h2,?_⟩;by_cases h3:x.op=4
 · rw [if_pos h3] at ha;exact row_to NU n _ a ha
 rw [if_neg h3] at ha;by_cases h4:x.op=6\/x.op=7
 · rw [if_pos h4] at ha;obtain ⟨k,hk,h⟩:=List.mem_flatMap.1 ha;simp only [List.mem_cons,List.not_mem_nil,or_false] at h;rcases h with e | e <;> rw [e] <;> exact hk
 · rw [if_neg h4] at ha;obtain ⟨k,hk,e⟩:=List.mem_map.1 ha;rw [<- e];exact hk
theorem actG_lt {gr:Gj} (hg:Good gr) (NU:Nat->Bool):∀ n,n < gr.ns.length->∀ a ∈ actG gr NU n,a.1 < gr.ns.length:=fun n hn a ha=>by
 obtain ⟨x,hx⟩:∃ x,gr.ns[n]?=some x:=⟨_,aG hn⟩;rcases actG_to hx ha with ⟨-,e⟩ | ⟨-,h⟩
 · rw [e];exact bodyG_lt hg hn
 · exact hg.kid x (aM hx) _ h
theorem nextG_end {gr:Gj} (hg:Good gr) (har:∀ x ∈ gr.ns,Ar x):InvN (Rn gr) (leadG gr) (actG gr (nulG gr)) gr.ns.length (nextG gr)/\∀ n,n < gr.ns.length->∀ a ∈ actG gr (nulG gr) n,∀ x ∈ srcN (leadG gr) (nextG gr) a,x ∈ nextG gr a.1 :=
 leastN_end (fun x h=>h.rng) (fun j=>(lead_rn hg har j).2) (actG_lt hg _) _ _ (by have:=lackN_le gr.ns.length (fun _=>[]) gr.ns.length;omega) (inv0N _ _ _ _)
end Go.Proofs.Ythddifjhoniacaa
