import Derived.Test.YthddifjhoniacaaGreatMc
import Derived.Test.YthddifjhoniacaaGreatSb
namespace Go.Proofs.YthddifjhoniacaaGreat
set_option linter.unusedVariables false
set_option maxHeartbeats 3200000
open Go.RowKit Go.Sort
theorem A7f (gr:Gj) (NU:Nat->Bool):YC (Pe gr NU):=fun M M' h n hn=>by
 unfold Pe at hn ⊢
 cases hx:gr.ns[n]? with
 | none=>rw [hx] at hn;cases hn
 | some x =>
  rw [hx] at hn;have hn:(if x.op=13 then true else if x.op=9\/x.op=10 then false else if x.op=11 then M (bY gr n) else if x.op=4 then (eH NU x.ks).any M else x.ks.any M)=true:=hn;show (if x.op=13 then true else if x.op=9\/x.op=10 then false else if x.op=11 then M' (bY gr n) else if x.op=4 then (eH NU x.ks).any M' else x.ks.any M')=true;by_cases h1:x.op=13
  · rw [if_pos h1]
  rw [if_neg h1] at hn ⊢;by_cases h2:x.op=9\/x.op=10
  · rw [if_pos h2] at hn;cases hn
  rw [if_neg h2] at hn ⊢;by_cases h3:x.op=11
  · rw [if_pos h3] at hn ⊢;exact h _ hn
  rw [if_neg h3] at hn ⊢;by_cases h4:x.op=4
  · rw [if_pos h4] at hn ⊢;exact OI h hn
  · rw [if_neg h4] at hn ⊢;exact OI h hn
theorem A0e (gr:Gj) (n:Nat) (hn:n < gr.ns.length):nH gr n=Pe gr (aZ gr) (nH gr) n:=by obtain ⟨h1,h2⟩:=Hl (A7f gr (aZ gr)) gr.ns.length (gr.ns.length + 1) (fun _=>false) (by have:=iQ (fun _=>false) gr.ns.length;omega) (fun j h=>by cases h);rw [Bool.eq_iff_iff];exact ⟨h1 n,h2 n hn⟩
theorem A8o (gr:Gj) (d n:Nat) (s:Fst) (N:Nat):bF (jI gr d n s).1 N<=bF s.1 N:=Hf (xR gr d n s) N
structure Fnd (gr:Gj) (A:Nat->Prop) (s:Fst):Prop where
 all:∀ j,s.1 j=true->A j
 o:∀ x,x ∈ s.2 ↔ ∃ j:Nat,x=(j:Int)/\s.1 j=true/\wN gr j=true
 ris:gF s.2
theorem MW (gr:Gj) (A:Nat->Prop) (hA:∀ n,A n->∀ k ∈ gT gr n,A k):∀ (d n:Nat) (s:Fst),A n->Fnd gr A s->Fnd gr A (jI gr d n s)
 | 0,n,s,_,h=>h
 | d + 1,n,s,hn,h=>by
  unfold jI;split
  · exact h
  ·
   next hm =>
   refine Xi (T:=A) (Fnd gr A) (fun k t hk ht=>MW gr A hA d k t hk ht) _ _ (hA n hn) ⟨fun j hj=>?_,fun x=>?_,?_⟩
   ·
    have hj:dC s.1 n j=true:=hj;unfold dC at hj;split at hj
    · next e=>rw [e];exact hn
    · exact h.all j hj
   ·
    show x ∈ (if wN gr n=true then bT s.2 (n:Int) else s.2) ↔ ∃ j:Nat,x=(j:Int)/\dC s.1 n j=true/\wN gr j=true;by_cases ht:wN gr n=true
    ·
     rw [if_pos ht,lW,h.o];constructor
     ·
      rintro (e | ⟨j,e,h1,h2⟩)
      · exact ⟨n,e,by unfold dC;rw [if_pos rfl],ht⟩
      · exact ⟨j,e,Zb _ _ _ h1,h2⟩
     ·
      rintro ⟨j,e,h1,h2⟩;by_cases ej:j=n
      · subst ej;exact .inl e
      · exact .inr ⟨j,e,by unfold dC at h1;rwa [if_neg ej] at h1,h2⟩
    ·
     rw [if_neg ht,h.o];constructor
     · rintro ⟨j,e,h1,h2⟩;exact ⟨j,e,Zb _ _ _ h1,h2⟩
     ·
      rintro ⟨j,e,h1,h2⟩;by_cases ej:j=n
      · subst ej;exact absurd h2 ht
      · exact ⟨j,e,by unfold dC at h1;rwa [if_neg ej] at h1,h2⟩
   ·
    show gF (if wN gr n=true then bT s.2 (n:Int) else s.2);split
    · exact h.ris.put _
    · exact h.ris
theorem A2c (gr:Gj) (N:Nat) (hN:∀ n,n < N->∀ k ∈ gT gr n,k < N):∀ (d n:Nat) (s:Fst),n < N->bF s.1 N < d->(jI gr d n s).1 n=true/\∀ j,(jI gr d n s).1 j=true->s.1 j=true\/∀ k ∈ gT gr j,(jI gr d n s).1 k=true
 | 0,n,s,_,h=>by omega
 | d + 1,n,s,hn,h=>by
  unfold jI;by_cases hm:s.1 n=true
  · rw [if_pos hm];exact ⟨hm,fun j hj=>.inl hj⟩
  ·
   rw [if_neg hm];have hm0:s.1 n=false:=(by simpa using hm);have hl:=Hg hn hm0 h;generalize hF:(if wN gr n=true then bT s.2 (n:Int) else s.2)=F;clear hF;have key:∀ (L:List Nat) (t:Fst),(∀ k ∈ L,k < N)->bF t.1 N < d->(∀ j,t.1 j=true->(oD (jI gr d) L t).1 j=true)/\(∀ k ∈ L,(oD (jI gr d) L t).1 k=true)/\∀ j,(oD (jI gr d) L t).1 j=true->t.1 j=true\/∀ k ∈ gT gr j,(oD (jI gr d) L t).1 k=true:=by
    intro L
    induction L with
    | nil=>exact fun t _ _=>⟨fun j hj=>hj,fun k hk=>(by cases hk),fun j hj=>.inl hj⟩
    | cons a r ih =>
     intro t hL ht;obtain ⟨h1,h2⟩:=A2c gr N hN d a t (hL a (List.mem_cons_self ..)) ht;obtain ⟨h3,h4,h5⟩:=ih (jI gr d a t) (fun k hk=>hL k (List.mem_cons_of_mem _ hk)) (Nat.lt_of_le_of_lt (A8o gr d a t N) ht);refine ⟨fun j hj=>h3 j (xR gr d a t j hj),fun k hk=>?_,fun j hj=>?_⟩
     ·
      rcases List.mem_cons.1 hk with rfl | hk
      · exact h3 _ h1
      · exact h4 k hk
     ·
      rcases h5 j hj with h6 | h6
      ·
       rcases h2 j h6 with h7 | h7
       · exact .inl h7
       · exact .inr fun k hk=>h3 k (h7 k hk)
      · exact .inr h6
   obtain ⟨h3,h4,h5⟩:=key (gT gr n) (dC s.1 n,F) (hN n hn) hl;refine ⟨h3 n (by show dC s.1 n n=true;unfold dC;rw [if_pos rfl]),fun j hj=>?_⟩;rcases h5 j hj with h6 | h6
   ·
    have h6:dC s.1 n j=true:=h6;by_cases e:j=n
    · subst e;exact .inr h4
    · unfold dC at h6;rw [if_neg e] at h6;exact .inl h6
   · exact .inr h6
theorem Mq {gr:Gj} (hN:∀ n,n < gr.ns.length->∀ k ∈ gT gr n,k < gr.ns.length) {n:Nat} (hn:n < gr.ns.length):gF (dE gr n)/\∀ x,x ∈ dE gr n ↔ ∃ j:Nat,x=(j:Int)/\Rch gr n j/\wN gr j=true:=by
 have h1:=MW gr (Rch gr n) (fun y hy k hk=>hy.tail hk) (gr.ns.length + 1) n (fun _=>false,[]) (.refl n) ⟨fun j hj=>(by cases hj),fun x=>⟨fun h=>(by cases h),fun ⟨j,_,h,_⟩=>(by cases h)⟩,trivial⟩;obtain ⟨h2,h3⟩:=A2c gr gr.ns.length hN (gr.ns.length + 1) n (fun _=>false,[]) hn (by have:=iQ (fun _=>false) gr.ns.length;show bF (fun _=>false) gr.ns.length < _;omega);refine ⟨h1.ris,fun x=>?_⟩;unfold dE;rw [h1.o];have hclo:∀ a j,Rch gr a j->(jI gr (gr.ns.length + 1) n (fun _=>false,[])).1 a=true->(jI gr (gr.ns.length + 1) n (fun _=>false,[])).1 j=true:=by
  intro a j h
  induction h with
  | refl a=>exact fun h=>h
  | step hk _ ih =>
   intro ha;rcases h3 _ ha with h4 | h4
   · cases h4
   · exact ih (h4 _ hk)
 constructor
 · rintro ⟨j,e,hj,ht⟩;exact ⟨j,e,h1.all j hj,ht⟩
 · rintro ⟨j,e,hj,ht⟩;exact ⟨j,e,hclo n j hj h2,ht⟩
theorem Ul {gr:Gj} (hg:Good gr):∀ n,n < gr.ns.length->∀ k ∈ gT gr n,k < gr.ns.length:=fun n hn=>A0j hg (fun _ h=>jK hg h) hn
theorem B3Z {gr:Gj} {n:Nat} {x:Nj} (hx:gr.ns[n]?=some x) (ha:Ar x) (h:wN gr n=true):nH gr n=false/\(x.op=1\/x.op=2\/x.op=3\/x.op=4\/x.op=5):=by
 rw [Kz hx] at h;have hn:=(aS.1 hx).1;have hk:=ha.kids;split at h
 · cases h
 next ho =>
 cases hq:nH gr n with
 | false =>
  refine ⟨rfl,?_⟩;rw [hq] at h;unfold dJ at hk;by_cases h4:x.op=4
  · omega
  by_cases h5:x.op=5
  · omega
  have he:x.ks=[]:=by simpa [h4,h5] using h
  rw [he] at hk;by_cases h1:x.op=1\/x.op=2\/x.op=3\/x.op=11
  · omega
  · exfalso;rw [if_neg h1,if_neg (by omega)] at hk;split at hk <;> simp at hk
 | true =>
  exfalso;rw [hq] at h;have he:x.ks=[]:=by simpa using h
  have hf:=A0e gr n hn;rw [hq] at hf;unfold Pe at hf;rw [hx] at hf;have hf:true=(if x.op=13 then true else if x.op=9\/x.op=10 then false else if x.op=11 then nH gr (bY gr n) else if x.op=4 then (eH (aZ gr) x.ks).any (nH gr) else x.ks.any (nH gr)):=hf;rw [he] at hf hk;by_cases h13:x.op=13
  · rw [h13] at hk;revert hk;decide
  · rw [if_neg h13,if_neg (fun e=>ho (.inr e)),if_neg (fun e=>ho (.inl e))] at hf;split at hf <;> simp [eH] at hf
theorem Rch.lt {gr:Gj} (hN:∀ n,n < gr.ns.length->∀ k ∈ gT gr n,k < gr.ns.length) {n j:Nat} (h:Rch gr n j):n < gr.ns.length->j < gr.ns.length:=by
 induction h with
 | refl n=>exact fun h=>h
 | step hk _ ih=>exact fun h=>ih (hN _ h _ hk)
theorem vG {gr:Gj} {n:Nat} (hn:n < gr.ns.length):nE gr (n:Int)=dE gr n:=by unfold nE;rw [if_pos (by omega),Int.toNat_natCast]
theorem IG {gr:Gj} (hg:Good gr) (har:∀ x ∈ gr.ns,Ar x) {n:Nat} (hn:n < gr.ns.length):gF (nE gr (n:Int))/\∀ y ∈ nE gr (n:Int),∃ j x,y=((j:Nat):Int)/\gr.ns[j]?=some x/\nH gr j=false/\(x.op=1\/x.op=2\/x.op=3\/x.op=4\/x.op=5):=by rw [vG hn];obtain ⟨h1,h2⟩:=Mq (Ul hg) hn;refine ⟨h1,fun y hy=>?_⟩;obtain ⟨j,e,hr,ht⟩:=(h2 y).1 hy;have hj:=hr.lt (Ul hg) hn;obtain ⟨x,hx⟩:∃ x,gr.ns[j]?=some x:=⟨_,aG hj⟩;obtain ⟨q1,q2⟩:=B3Z hx (har x (aM hx)) ht;exact ⟨j,x,e,hx,q1,q2⟩
def Rn (gr:Gj) (x:Int):Prop:=∃ i:Nat,x=(i:Int)/\i < gr.ns.length/\nH gr i=false
theorem B0o {gr:Gj} {j:Nat} (h:gr.ns.length<=j):dE gr j=[]:=by
 have hn:gr.ns[j]?=none:=List.getElem?_eq_none h;have h1:gT gr j=[]:=by unfold gT;rw [hn]
 have h2:wN gr j=false:=by unfold wN;rw [hn]
 unfold dE;rw [XU rfl,h1,h2];rfl
theorem Mr {gr:Gj} (hg:Good gr) (har:∀ x ∈ gr.ns,Ar x) (j:Nat):gF (dE gr j)/\∀ x ∈ dE gr j,Rn gr x:=by
 by_cases hj:j < gr.ns.length
 · obtain ⟨h1,h2⟩:=IG hg har hj;rw [vG hj] at h1 h2;refine ⟨h1,fun x hx=>?_⟩;obtain ⟨i,y,e,hy,hl,-⟩:=h2 x hx;exact ⟨i,e,(aS.1 hy).1,hl⟩
 · rw [B0o (by omega)];exact ⟨trivial,fun x hx=>(by cases hx)⟩
theorem Rn.rng {gr:Gj} {x:Int} (h:Rn gr x):0<=x/\x < (gr.ns.length:Int):=by obtain ⟨i,e,h1,-⟩:=h;omega
theorem CP {gr:Gj} (hg:Good gr) (har:∀ x ∈ gr.ns,Ar x) (j:Nat):((dE gr j).length:Int)<=1000/\∀ x ∈ dE gr j,0<=x/\x < (gr.ns.length:Int):=by obtain ⟨h1,h2⟩:=Mr hg har j;have h3:=gF.len (N:=gr.ns.length) (dE gr j) 0 h1 (fun y hy=>by have:=(h2 y hy).rng;omega) (Nat.zero_le _);have:=hg.len;exact ⟨by omega,fun x hx=>(h2 x hx).rng⟩
theorem UN (NU:Nat->Bool) (n k:Nat):∀ (r:List Nat) (a:gX),a ∈ Dy NU n k r->a.1=k
 | [],a,h=>by have h:a ∈ [((k,false,n):gX)]:=h;rw [List.mem_singleton] at h;rw [h]
 | b :: r,a,h=>by
  have h:a ∈ ((k,true,b):gX) :: (if NU b=true then Dy NU n k r else []):=h;rcases List.mem_cons.1 h with e | h
  · rw [e]
  ·
   split at h
   · exact UN NU n k r a h
   · cases h
theorem B2s (NU:Nat->Bool) (n:Nat):∀ (L:List Nat) (a:gX),a ∈ yJ NU n L->a.1 ∈ L
 | [],a,h=>by cases h
 | k :: r,a,h=>by
  rcases List.mem_append.1 h with h | h
  · rw [UN NU n k r a h];exact List.mem_cons_self ..
  · exact List.mem_cons_of_mem _ (B2s NU n r a h)
theorem Gi {gr:Gj} {NU:Nat->Bool} {n:Nat} {x:Nj} (hx:gr.ns[n]?=some x):zF gr NU n=(if x.op=9\/x.op=10 then [] else if x.op=11 then [((bY gr n,false,n):gX)] else if x.op=4 then yJ NU n x.ks else if x.op=6\/x.op=7 then x.ks.flatMap (fun k=>[((k,true,k):gX),(k,false,n)]) else x.ks.map (fun k=>((k,false,n):gX))):=by unfold zF;rw [hx]
theorem UI {gr:Gj} {NU:Nat->Bool} {n:Nat} {x:Nj} (hx:gr.ns[n]?=some x) {a:gX} (ha:a ∈ zF gr NU n):(x.op=11/\a.1=bY gr n)\/(x.op ≠ 11/\a.1 ∈ x.ks):=by
 rw [Gi hx] at ha;by_cases h1:x.op=9\/x.op=10
 · rw [if_pos h1] at ha;cases ha
 rw [if_neg h1] at ha;by_cases h2:x.op=11
 · rw [if_pos h2,List.mem_singleton] at ha;exact .inl ⟨h2,by rw [ha]⟩
 rw [if_neg h2] at ha;refine .inr ⟨h2,?_⟩;by_cases h3:x.op=4
 · rw [if_pos h3] at ha;exact B2s NU n _ a ha
 rw [if_neg h3] at ha;by_cases h4:x.op=6\/x.op=7
 · rw [if_pos h4] at ha;obtain ⟨k,hk,h⟩:=List.mem_flatMap.1 ha;simp only [List.mem_cons,List.not_mem_nil,or_false] at h;rcases h with e | e <;> rw [e] <;> exact hk
 · rw [if_neg h4] at ha;obtain ⟨k,hk,e⟩:=List.mem_map.1 ha;rw [<- e];exact hk
theorem UH {gr:Gj} (hg:Good gr) (NU:Nat->Bool):∀ n,n < gr.ns.length->∀ a ∈ zF gr NU n,a.1 < gr.ns.length:=fun n hn a ha=>by
 obtain ⟨x,hx⟩:∃ x,gr.ns[n]?=some x:=⟨_,aG hn⟩;rcases UI hx ha with ⟨-,e⟩ | ⟨-,h⟩
 · rw [e];exact jK hg hn
 · exact hg.kid x (aM hx) _ h
theorem jQ {gr:Gj} (hg:Good gr) (har:∀ x ∈ gr.ns,Ar x):wO (Rn gr) (dE gr) (zF gr (aZ gr)) gr.ns.length (bP gr)/\∀ n,n < gr.ns.length->∀ a ∈ zF gr (aZ gr) n,∀ x ∈ mD (dE gr) (bP gr) a,x ∈ bP gr a.1 :=
 II (fun x h=>h.rng) (fun j=>(Mr hg har j).2) (UH hg _) _ _ (by have:=Uh gr.ns.length (fun _=>[]) gr.ns.length;omega) (B0Y _ _ _ _)
def A0G (gr:Gj):Bool:=decide (gr.ns.length<=160) && gr.ns.all (fun x=>decide (x.ks.length<=90001) && x.ks.all (fun k=>decide (k < gr.ns.length)) && (x.op != 11 || (decide (0<=x.tg) && (match gr.hs[x.tg.toNat]? with
 | some h=>decide (h.bo < gr.ns.length)
 | none=>false))))
theorem GL {gr:Gj} (h:A0G gr=true):Good gr:=by
 unfold A0G at h;rw [Bool.and_eq_true,List.all_eq_true] at h;obtain ⟨h1,h2⟩:=h;refine ⟨of_decide_eq_true h1,fun x hx=>?_,fun x hx k hk=>?_,fun x hx h11=>?_⟩
 · have:=h2 x hx;rw [Bool.and_eq_true,Bool.and_eq_true] at this;exact of_decide_eq_true this.1.1
 · have:=h2 x hx;rw [Bool.and_eq_true,Bool.and_eq_true,List.all_eq_true] at this;exact of_decide_eq_true (this.1.2 k hk)
 ·
  have:=h2 x hx;rw [Bool.and_eq_true,h11] at this;have h3:=this.2;rw [show ((11:Int) != 11)=false from rfl,Bool.false_or,Bool.and_eq_true] at h3;obtain ⟨h4,h5⟩:=h3;have h6:=of_decide_eq_true h4;refine ⟨x.tg.toNat,?_⟩
  cases hh:gr.hs[x.tg.toNat]? with
  | none=>rw [hh] at h5;cases h5
  | some h=>rw [hh] at h5;exact ⟨h,by omega,rfl,of_decide_eq_true h5⟩
theorem rT:Good bR:=GL (by kernel_rfl)
theorem dS (v u:Value) (L:List Int) (B C:Nat) (hn:(L.length:Int)<=1000) (w:World) (hv:aO w B v L) (hu:aO w C u L) :
  Calls Tryz.prog 20 #[v,u] w fun e w'=>e=.returned (.bool true)/\Below w.heap.size w w':=by
 obtain ⟨ao,ca,rfl,hca,hA⟩:=hv;obtain ⟨bo,cb,rfl,hcb,hC⟩:=hu;have HA:=aH hA;have HC:=aH hC;clear hA hC;obtain ⟨n,hnn⟩:∃ n,L.length=n:=⟨_,rfl⟩;rw [hnn] at hn HA HC hca hcb ⊢;clear hnn;go_enter Tryz.func20,Tryz.ntmps20;go_wp2_with fail
 go_loopw [4,5] (fun b4 b5 wr=>∃ k m:Nat,b4=.bool false/\b5=.int .i64 (k:Int)/\(k:Int)<=n/\wr=w.drewN m)
  (fun _ b5 _=>n - (intOf b5).toNat)
 case atStart=>exact ⟨0,0,rfl,rfl,by omega,rfl⟩
 case round =>
  obtain ⟨k,m,rfl,rfl,hk2,rfl⟩:=hrel;have hw1:IntKind.i64.wrap ((k:Int) + 1)=(k:Int) + 1:=wI;by_cases h1:(k:Int) < n
  ·
   obtain ⟨g,off,rfl,hg1,_,c1⟩:=HA.o k (by omega);obtain ⟨g',off',rfl,hg2,_,c2⟩:=HC.o k (by omega);clear HA HC;go_wp2_with fail;go_quiet (fail);go_wp2
   go_roundw
   case rel=>exact ⟨k + 1,m + nq,rfl,by go_num,by omega,rfl⟩
   case measure=>simp [intOf];omega
  · clear HA HC;go_wp2;go_ret;exact ⟨rfl,below_drewN (Below.refl _ _) m⟩
theorem aO.new (W:World) (L:List Int):aO (W.alloc (.cells (L.map (Value.int .i64)).toArray 3)) W.heap.size (.slice (some ⟨W.heap.size,0,none⟩) L.length L.length) L:=by refine ⟨_,_,rfl,Nat.le_refl _,fun j hj=>⟨W.heap.size,0,rfl,by simp,Nat.le_refl _,?_⟩⟩;have h:=(Own.fresh W 3 (L.map (Value.int .i64))).cell j;rw [Nat.zero_add,h,List.getElem?_map,aG hj,List.getD_eq_getElem?_getD,aG hj];rfl
theorem Sh.flag {w:World} {E p u q C:Nat} {lo:Option Addr} {lc:Nat} {gr:Gj} {a:Gv} {LD:Nx} {s:Nx × Bool} (h:Sh w E p u q C lo lc gr a LD s) (z:Bool):Sh (w.setCell ⟨p,8,none⟩ (.bool z)) E p u q C lo lc gr a LD (s.1,z):=by
 have hb:But (fun j=>j=p) w (w.setCell ⟨p,8,none⟩ (.bool z)):=But.put w p 8 _;have hI:∀ {v':Value} {L:List Int},aO w C v' L->aO (w.setCell ⟨p,8,none⟩ (.bool z)) C v' L:=fun hi=>hi.but hb (fun b hc _ e=>by have:=h.pc;have e:b=p:=e;omega);obtain ⟨V,h1,h2⟩:=h.nx
 exact ⟨h.ep,h.eq,h.pq,h.up,h.uq,h.pc,h.qc,h.own.put 8 (.bool z),h.nu.but hb h.up,⟨V,h1.but hb (fun e=>h.pq e.symm),fun k hk=>hI (h2 k hk)⟩,
  fun k hk=>by obtain ⟨b,off,v,e,h3,h4,h5,h6⟩:=h.ld k hk;exact ⟨b,off,v,e,aL h3 hb.size,h4,hb.cell (fun e=>by have:=h.pc;have e:b=p:=e;omega) h5,hI h6⟩,
  h.hg.but hb (fun j _ hj e=>by have:=h.ep;have e:j=p:=e;omega),h.ok,Nat.le_trans h.sz hb.size⟩
def NxE (gr:Gj) (w:World) (e:Ending) (w':World):Prop:=∃ q,e=.returned (.slice (some ⟨q,0,none⟩) gr.ns.length gr.ns.length)/\(∃ V:Nat->Value,Own w' q 25 ((List.range gr.ns.length).map V)/\∀ k,k < gr.ns.length->aO w' w.heap.size (V k) (bP gr k))/\w.heap.size<=q/\Below w.heap.size w w'
set_option maxRecDepth 1000000 in
theorem Ag (gr:Gj) (a:Gv) (hg:Good gr) (har:∀ x ∈ gr.ns,Ar x) (w:World) (hG:dG w gr a):Calls Tryz.prog 9 #[grv gr a] w (NxE gr w):=by
 have HGD:=aH hg;have HAR:=aH har;have HB1:=gB w a gr;have HO1:=gO w a gr;have HG1:=aH ((hG.mono (T:=fun b=>b < w.heap.size) (fun _ h _=>h)).below HB1.o);have HNU:=aH (fun W h=>rP gr a hg W h);have HLE:=aH (fun (k:Int) W (h:dG W gr a)=>Nw gr a hg k W h);have HTL:=aH (fun E p u q C lo lc n hn s W hS=>A8g gr a hg har E p u q C lo lc (dE gr) (CP hg har) n hn s W hS);obtain ⟨RES,hRES⟩:∃ z,bP gr=z:=⟨_,rfl⟩;have HR0:=aH (show sI (dE gr) (zF gr (aZ gr)) gr.ns.length (gr.ns.length * gr.ns.length + 1) (fun _=>[])=RES from by rw [<- hRES];rfl);unfold NxE;rw [hRES];unfold BoE at HNU;unfold LeE at HLE;unfold ShE at HTL;unfold grv;unfold grv at HNU HLE;obtain ⟨nn,nh,nms,nw,hnn,hnh,hnms,hnw⟩:=nG gr;have HLN:=aH hnn;have HRW:=aH (show ([.slice a.mo gr.ms.length a.mc,.slice a.no gr.ns.length a.nc,.slice a.ho gr.hs.length a.hc,.slice a.wo gr.ws.length a.wc,.int .i64 gr.st]:List Value)=[.slice a.mo nms a.mc,.slice a.no nn a.nc,.slice a.ho nh a.hc,.slice a.wo nw a.wc,.int .i64 gr.st] from by rw [hnn,hnh,hnms,hnw]);have hn160:(nn:Int)<=160:=by have:=hg.len;omega
 rw [hnn] at HR0;rw [hnn,hnh,hnms,hnw] at HNU HLE HB1 HO1 HG1;rw [hnn,hnh,hnms,hnw];obtain ⟨B,hB⟩:∃ B,w.heap.size=B:=⟨_,rfl⟩;have HW1:=aH (show (w.alloc (.cells #[.slice a.mo nms a.mc,.slice a.no nn a.nc,.slice a.ho nh a.hc,.slice a.wo nw a.wc,.int .i64 gr.st] 27)).heap.size=B + 1 from by rw [<- hB];simp);have HBE:=aH hB;rw [hB] at HO1;have hmk:∀ W:World,(Instr.makeSlice 32 (.int .i64 (nn:Int)) (.int .i64 (nn:Int))).run Tryz.prog W=.ok (.slice (some ⟨W.heap.size,0,none⟩) nn nn) (W.alloc (.cells (Array.replicate nn (Value.slice none 0 0)) 25)):=fun W=>LX nn (by omega) W;have HMK:=aH hmk;clear hg har hG hRES hnn hnh hnms hnw hmk;go_enter Tryz.func9,Tryz.ntmps9;go_upto_region 1 with fail;generalize w.alloc (.cells #[.slice a.mo nms a.mc,.slice a.no nn a.nc,.slice a.ho nh a.hc,.slice a.wo nw a.wc,.int .i64 gr.st] 27)=w1 at *;try rw [hB]
 clear hB;obtain ⟨g0,g1,g2,g3,g4,gl⟩:=oG HO1.o
 go_cut [3] (fun s3 wx=>∃ u q p,s3=.pointer (some ⟨p,0,none⟩)/\aQ (Own wx p 56 [.slice a.mo nms a.mc,.slice a.no nn a.nc,.slice a.ho nh a.hc,.slice a.wo nw a.wc,.int .i64 gr.st,.slice (some ⟨u,0,none⟩) nn nn,.slice none 0 0,.slice (some ⟨q,0,none⟩) nn nn,.bool false])/\aQ (Own wx u 4 (bZ (aZ gr) nn))/\aQ (Own wx q 25 (List.replicate nn (Value.slice none 0 0)))/\aQ (B + 1<=u/\B + 1<=q/\u ≠ q/\u < p/\q < p)/\aQ (Below w1.heap.size w1 wx))
 case first =>
  refine wp_region_held (S:=fun Wx=>B < Wx.heap.size/\Wx.cell? ⟨B,0,none⟩=some (.slice a.mo nms a.mc)/\Wx.cell? ⟨B,1,none⟩=some (.slice a.no nn a.nc)/\Wx.cell? ⟨B,2,none⟩=some (.slice a.ho nh a.hc)/\Wx.cell? ⟨B,3,none⟩=some (.slice a.wo nw a.wc)/\Wx.cell? ⟨B,4,none⟩=some (.int .i64 gr.st)) (by kernel_rfl) ?_;change wpAnyH _ _ _ _ _ _ _ _ (World.drew _);have HKS:=aH (fun (W:World) (h:Below w1.heap.size w1 W)=>show B < W.heap.size/\W.cell? ⟨B,0,none⟩=some (.slice a.mo nms a.mc)/\W.cell? ⟨B,1,none⟩=some (.slice a.no nn a.nc)/\W.cell? ⟨B,2,none⟩=some (.slice a.ho nh a.hc)/\W.cell? ⟨B,3,none⟩=some (.slice a.wo nw a.wc)/\W.cell? ⟨B,4,none⟩=some (.int .i64 gr.st) from ⟨aL gl h.size,aC g0 h,aC g1 h,aC g2 h,aC g3 h,aC g4 h⟩);have HSS:=aH (HKS.o (World.drew w1) (Below.refl _ _).drew);clear g0 g1 g2 g3 g4 gl;refine tkG 0 ?_ rfl HSS.o (by rfl) ?_ ?_;rotate_left;· rintro W ⟨a0,a1,a2,a3,a4,a5⟩;go_simp;try with_reducible rfl
  go_simp;refine tkG 1 ?_ rfl HSS.o (by rfl) ?_ ?_;rotate_left;· rintro W ⟨a0,a1,a2,a3,a4,a5⟩;go_simp;try with_reducible rfl
  go_simp;refine tkG 3 ?_ rfl HSS.o (by rfl) ?_ ?_;rotate_left;· rintro W ⟨a0,a1,a2,a3,a4,a5⟩;go_simp;try with_reducible rfl
  go_simp;refine tkG 4 ?_ rfl HSS.o (by rfl) ?_ ?_;rotate_left;· rintro W ⟨a0,a1,a2,a3,a4,a5⟩;go_simp;try with_reducible rfl
  go_simp;refine tkG 5 ?_ rfl HSS.o (by rfl) ?_ ?_;rotate_left;· rintro W ⟨a0,a1,a2,a3,a4,a5⟩;go_simp;try with_reducible rfl
  go_simp;have hb0:Below w1.heap.size w1 (World.drew w1):=(Below.refl _ _).drew;refine nM (i:=2) (k:=6) (by kernel_rfl) (bB (f:=21) (vs:=#[.agg #[.slice a.mo nms a.mc,.slice a.no nn a.nc,.slice a.ho nh a.hc,.slice a.wo nw a.wc,.int .i64 gr.st]]) rfl (by kernel_rfl) (by go_simp) ((HNU.o (World.drew w1) (HG1.o.below hb0 |>.mono fun _ _ _=>trivial)).mono ?_)) (aY (v:=.slice (some ⟨(World.drew w1).heap.size,0,none⟩) nn nn) (w':=(World.drew w1).alloc (.cells (Array.replicate nn (Value.slice none 0 0)) 25)) rfl (by kernel_rfl) (by go_simp;rw [HMK.o];rfl) ?_)
  ·
   rintro e v1 ⟨u,he,hu0,hul,hbq⟩;have hb1:=hb0.trans (hbq.mono hb0.size);have hul:w1.heap.size<=u:=hul;refine ⟨_,he,HKS.o v1 hb1,?_⟩;go_simp;refine bE (i:=6) (by kernel_rfl) (aY (v:=.slice (some ⟨v1.heap.size,0,none⟩) nn nn) (w':=v1.alloc (.cells (Array.replicate nn (Value.slice none 0 0)) 25)) rfl (by kernel_rfl) (by go_simp;rw [HMK.o];rfl) ?_);have hbq2:Below v1.heap.size v1 (v1.alloc (.cells (Array.replicate nn (Value.slice none 0 0)) 25)):=bA _;have hb2:=hb1.trans (hbq2.mono hb1.size);refine ⟨HKS.o _ hb2,?_⟩;obtain ⟨q,hq0⟩:∃ q,v1.heap.size=q:=⟨_,rfl⟩;have hq:Own (v1.alloc (.cells (Array.replicate nn (Value.slice none 0 0)) 25)) q 25 (List.replicate nn (Value.slice none 0 0)):=(by rw [<- hq0,<- List.toArray_replicate];exact Own.fresh v1 25 _);have hu:=hu0.under hbq2 hu0.lt;have f1:=hu0.lt;have f3:=hb1.size;rw [hq0] at f1 f3;clear hbq2 hbq hu0;generalize v1.alloc (.cells (Array.replicate nn (Value.slice none 0 0)) 25)=v2 at *;try rw [hq0]
   clear hq0;go_simp;refine tkG 7 ?_ rfl (HKS.o v2 hb2) (by rfl) ?_ ?_;rotate_left;· intro W hW;go_simp;try with_reducible rfl
   go_simp;have hbx:Below v2.heap.size v2 (v2.alloc (.cells #[.slice a.mo nms a.mc,.slice a.no nn a.nc,.slice a.ho nh a.hc,.slice a.wo nw a.wc,.int .i64 gr.st,.slice (some ⟨u,0,none⟩) nn nn,.slice none 0 0,.slice (some ⟨q,0,none⟩) nn nn,.bool false] 56)):=bA _;have hbz:=hb2.trans (hbx.mono hb2.size);refine bE (i:=8) (by kernel_rfl) (aY (v:=.pointer (some ⟨v2.heap.size,0,none⟩)) (w':=v2.alloc (.cells #[.slice a.mo nms a.mc,.slice a.no nn a.nc,.slice a.ho nh a.hc,.slice a.wo nw a.wc,.int .i64 gr.st,.slice (some ⟨u,0,none⟩) nn nn,.slice none 0 0,.slice (some ⟨q,0,none⟩) nn nn,.bool false] 56)) rfl (by kernel_rfl) (by go_simp;try rfl) ?_);refine ⟨HKS.o _ hbz,?_⟩;go_simp;refine tkG 9 ?_ rfl (HKS.o _ hbz) (by rfl) ?_ ?_;rotate_left;· intro W hW;go_simp;try with_reducible rfl
   go_simp;refine wpAnyH_done (by kernel_rfl) ?_ _;go_simp;try go_wp2
   go_meet
   have hw1:=HW1.o;exact ⟨u,q,v2.heap.size,rfl,aH (Own.fresh v2 56 [.slice a.mo nms a.mc,.slice a.no nn a.nc,.slice a.ho nh a.hc,.slice a.wo nw a.wc,.int .i64 gr.st,.slice (some ⟨u,0,none⟩) nn nn,.slice none 0 0,.slice (some ⟨q,0,none⟩) nn nn,.bool false]),aH (hu.under hbx hu.lt),aH (hq.under hbx hq.lt),aH ⟨by omega,by omega,by omega,hu.lt,hq.lt⟩,aH hbz⟩
  ·
   have hbq1:Below (World.drew w1).heap.size (World.drew w1) ((World.drew w1).alloc (.cells (Array.replicate nn (Value.slice none 0 0)) 25)):=bA _;have hb1:=hb0.trans (hbq1.mono hb0.size);refine ⟨HKS.o _ hb1,?_⟩;obtain ⟨q,hq0⟩:∃ q,(World.drew w1).heap.size=q:=⟨_,rfl⟩;have hq1:Own ((World.drew w1).alloc (.cells (Array.replicate nn (Value.slice none 0 0)) 25)) q 25 (List.replicate nn (Value.slice none 0 0)):=(by rw [<- hq0,<- List.toArray_replicate];exact Own.fresh (World.drew w1) 25 _);have f3:w1.heap.size<=q:=Nat.le_of_eq hq0;have f4:q < ((World.drew w1).alloc (.cells (Array.replicate nn (Value.slice none 0 0)) 25)).heap.size:=hq1.lt;clear hbq1;generalize (World.drew w1).alloc (.cells (Array.replicate nn (Value.slice none 0 0)) 25)=v1 at *;try rw [hq0]
   clear hq0;go_simp;refine bE (i:=2) (by kernel_rfl) (bB (f:=21) (vs:=#[.agg #[.slice a.mo nms a.mc,.slice a.no nn a.nc,.slice a.ho nh a.hc,.slice a.wo nw a.wc,.int .i64 gr.st]]) rfl (by kernel_rfl) (by go_simp) ((HNU.o v1 (HG1.o.below hb1 |>.mono fun _ _ _=>trivial)).mono ?_));rintro e v2 ⟨u,he,hu,hul,hbq⟩;have hb2:=hb1.trans (hbq.mono hb1.size);have hq:=hq1.under hbq hq1.lt;have f5:=hb1.size;refine ⟨_,he,HKS.o v2 hb2,?_⟩;clear hbq hq1;go_simp;refine tkG 7 ?_ rfl (HKS.o v2 hb2) (by rfl) ?_ ?_;rotate_left;· intro W hW;go_simp;try with_reducible rfl
   go_simp;have hbx:Below v2.heap.size v2 (v2.alloc (.cells #[.slice a.mo nms a.mc,.slice a.no nn a.nc,.slice a.ho nh a.hc,.slice a.wo nw a.wc,.int .i64 gr.st,.slice (some ⟨u,0,none⟩) nn nn,.slice none 0 0,.slice (some ⟨q,0,none⟩) nn nn,.bool false] 56)):=bA _;have hbz:=hb2.trans (hbx.mono hb2.size);refine bE (i:=8) (by kernel_rfl) (aY (v:=.pointer (some ⟨v2.heap.size,0,none⟩)) (w':=v2.alloc (.cells #[.slice a.mo nms a.mc,.slice a.no nn a.nc,.slice a.ho nh a.hc,.slice a.wo nw a.wc,.int .i64 gr.st,.slice (some ⟨u,0,none⟩) nn nn,.slice none 0 0,.slice (some ⟨q,0,none⟩) nn nn,.bool false] 56)) rfl (by kernel_rfl) (by go_simp;try rfl) ?_);refine ⟨HKS.o _ hbz,?_⟩;go_simp;refine tkG 9 ?_ rfl (HKS.o _ hbz) (by rfl) ?_ ?_;rotate_left;· intro W hW;go_simp;try with_reducible rfl
   go_simp;refine wpAnyH_done (by kernel_rfl) ?_ _;go_simp;try go_wp2
   go_meet
   have hw1:=HW1.o;exact ⟨u,q,v2.heap.size,rfl,aH (Own.fresh v2 56 [.slice a.mo nms a.mc,.slice a.no nn a.nc,.slice a.ho nh a.hc,.slice a.wo nw a.wc,.int .i64 gr.st,.slice (some ⟨u,0,none⟩) nn nn,.slice none 0 0,.slice (some ⟨q,0,none⟩) nn nn,.bool false]),aH (hu.under hbx hu.lt),aH (hq.under hbx hq.lt),aH ⟨by omega,by omega,by omega,hu.lt,hq.lt⟩,aH hbz⟩
 case rest =>
  obtain ⟨u,q,p,rfl,HP,HU,HQ,HLY,HB⟩:=hcut;clear g0 g1 g2 g3 g4 gl;have HB2:=aH (HB1.o.trans (HB.o.mono HB1.o.size));have HGC:=aH (HG1.o.below HB.o);have HOC:=aH (HO1.o.under HB.o HO1.o.lt);obtain ⟨C,hC⟩:∃ C,wc.heap.size=C:=⟨_,rfl⟩;have HCE:=aH hC;have HPC:=aH (show p < C from by rw [<- hC];exact HP.o.lt);have HLD0:=aH (LdW.nil wc C (dE gr));have HBB:=aH (But.refl (fun g=>g=p) wc);have HBL:=aH (show B < B + 1/\B < C from by have:=HOC.o.lt;omega);clear hC;have g1:wc.cell? ⟨B,1,none⟩=some (.slice a.no nn a.nc):=HOC.o.cell 1;have gl:=HOC.o.lt;go_wp2_with fail;clear g1 gl
  go_loopw [18] (fun v18 wr=>∃ (k:Nat) (vl:Value),v18=.int .i64 (k:Int)/\(k:Int)<=nn/\aQ (Own wr p 56 [.slice a.mo nms a.mc,.slice a.no nn a.nc,.slice a.ho nh a.hc,.slice a.wo nw a.wc,.int .i64 gr.st,.slice (some ⟨u,0,none⟩) nn nn,vl,.slice (some ⟨q,0,none⟩) nn nn,.bool false])/\aQ (LdW wr C (dE gr) vl k)/\aQ (But (fun g=>g=p) wc wr)) (fun v18 _=>nn - (intOf v18).toNat)
  case atStart=>exact ⟨0,.slice none 0 0,rfl,by omega,HP,HLD0,HBB⟩
  case round =>
   obtain ⟨k,vl,rfl,hk,HPk,HLk,HBk⟩:=hrel;by_cases hkn:(k:Int) < nn
   ·
    have hk1:decide ((k:Int) < (nn:Int))=true:=aT hkn;have hk2:decide (k < nn)=true:=aT (by omega);have hw1:IntKind.i64.wrap ((k:Int) + 1)=(k:Int) + 1:=wI;obtain ⟨V,S,hW,hS2,hS3⟩:=HLk.o;have HWk:=aH hW;have HS2:=aH hS2;have HS3:=aH hS3;have hOB:=HOC.o.but HBk.o (by have:=HLY.o;have:=HBL.o;show ¬ B=p;omega);have HKS:=aH (show p < wr.heap.size/\wr.cell? ⟨p,6,none⟩=some vl/\B < wr.heap.size/\wr.cell? ⟨B,0,none⟩=some (.slice a.mo nms a.mc)/\wr.cell? ⟨B,1,none⟩=some (.slice a.no nn a.nc)/\wr.cell? ⟨B,2,none⟩=some (.slice a.ho nh a.hc)/\wr.cell? ⟨B,3,none⟩=some (.slice a.wo nw a.wc)/\wr.cell? ⟨B,4,none⟩=some (.int .i64 gr.st) from ⟨HPk.o.lt,HPk.o.cell 6,hOB.lt,hOB.cell 0,hOB.cell 1,hOB.cell 2,hOB.cell 3,hOB.cell 4⟩);have HGk:=aH ((HGC.o.but HBk.o (fun j _ hj e=>by have:=HBE.o;have:=HLY.o;have e:j=p:=e;omega)).mono (T:=fun _=>True) fun _ _ _=>trivial);have HCL:=aH (HLE.o (k:Int) (World.drew wr) (HGk.o.below (Below.refl wr.heap.size wr).drew));obtain ⟨i0,ii,hz0,hz1,hz2⟩:=info_parts Es;have HCW:=aH (show C<=wr.heap.size from by have:=HBk.o.size;have:=HCE.o;omega);clear hW hS2 hS3 hOB;go_upto_region 5 with fail;refine bX (fun Wx=>p < Wx.heap.size/\Wx.cell? ⟨p,6,none⟩=some vl/\B < Wx.heap.size/\Wx.cell? ⟨B,0,none⟩=some (.slice a.mo nms a.mc)/\Wx.cell? ⟨B,1,none⟩=some (.slice a.no nn a.nc)/\Wx.cell? ⟨B,2,none⟩=some (.slice a.ho nh a.hc)/\Wx.cell? ⟨B,3,none⟩=some (.slice a.wo nw a.wc)/\Wx.cell? ⟨B,4,none⟩=some (.int .i64 gr.st)) 12 (by kernel_rfl) ?_;have HSS:=aH (show p < (World.drew wr).heap.size/\(World.drew wr).cell? ⟨p,6,none⟩=some vl/\B < (World.drew wr).heap.size/\(World.drew wr).cell? ⟨B,0,none⟩=some (.slice a.mo nms a.mc)/\(World.drew wr).cell? ⟨B,1,none⟩=some (.slice a.no nn a.nc)/\(World.drew wr).cell? ⟨B,2,none⟩=some (.slice a.ho nh a.hc)/\(World.drew wr).cell? ⟨B,3,none⟩=some (.slice a.wo nw a.wc)/\(World.drew wr).cell? ⟨B,4,none⟩=some (.int .i64 gr.st) from HKS.o);refine tC 0 rfl HSS.o ?_;go_simp;refine tC 1 rfl HSS.o ?_;go_simp;refine tC 2 rfl HSS.o ?_;go_simp;refine tC 3 rfl HSS.o ?_;go_simp;refine tD 4 [9,12] rfl HSS.o ?_;go_simp;refine tD 5 [7,8,9,12] rfl HSS.o ?_;go_simp;refine tC 6 rfl HSS.o ?_;go_simp;refine aI.one (i:=7) (by kernel_rfl) (bB (f:=22) (vs:=#[.agg #[.slice a.mo nms a.mc,.slice a.no nn a.nc,.slice a.ho nh a.hc,.slice a.wo nw a.wc,.int .i64 gr.st],.int .i64 (k:Int)]) rfl (by kernel_rfl) (by go_simp) (HCL.o.mono ?_));rintro e wA ⟨vA,he,hI,hbA⟩;have hbA:Below wr.heap.size wr wA:=((Below.refl wr.heap.size wr).drew).trans hbA;have hI:aO wA wr.heap.size vA (dE gr k):=(by rw [<- vG (show k < gr.ns.length from by have:=HLN.o;omega)];exact hI);obtain ⟨vo,vn,vc,hvA⟩:∃ ao n c,vA=.slice ao n c:=(by obtain ⟨x1,x2,x3,-⟩:=hI;exact ⟨x1,_,x2,x3⟩);have hoff:Iq S vA:=fun g off n c e hn hs=>(by have:=(hI.blk e hn).1;have:=(HS2.o g hs).2;omega);have K:=HKS.o;refine ⟨_,he,.inr (.inr ⟨aL K.1 hbA.size,aC K.2.1 hbA,aL K.2.2.1 hbA.size,aC K.2.2.2.1 hbA,aC K.2.2.2.2.1 hbA,aC K.2.2.2.2.2.1 hbA,aC K.2.2.2.2.2.2.1 hbA,aC K.2.2.2.2.2.2.2 hbA⟩),?_⟩;go_simp;have hbx:Below wA.heap.size wA (wA.alloc (.cells #[vA] 25)):=bA _;have hbB:=hbA.trans (hbx.mono hbA.size);have hOG:=Own.fresh wA 25 [vA];have hI2:=hI.below hbx;have HFR:=aH (show wr.heap.size<=wA.heap.size from hbA.size);refine aI.one (i:=8) (by kernel_rfl) (aY (v:=.slice (some ⟨wA.heap.size,0,none⟩) 1 1) (w':=wA.alloc (.cells #[vA] 25)) rfl (by kernel_rfl) (by go_simp;try rfl) ?_);refine ⟨.inr (.inr ⟨aL K.1 hbB.size,aC K.2.1 hbB,aL K.2.2.1 hbB.size,aC K.2.2.2.1 hbB,aC K.2.2.2.2.1 hbB,aC K.2.2.2.2.2.1 hbB,aC K.2.2.2.2.2.2.1 hbB,aC K.2.2.2.2.2.2.2 hbB⟩),?_⟩;generalize wA.alloc (.cells #[vA] 25)=wB at *;generalize wA.heap.size=G at *;go_simp;refine aI.one (i:=9) (by kernel_rfl) (Bh rfl (by kernel_rfl) _ _ 32 32 rfl S 25 i0 _ 1 24 Tryz.underlying32 ii hz0 hz1 hz2 rfl (by decide) vl k ((List.range k).map V) rfl (HWk.o.below hbB) (.slice (some ⟨G,0,none⟩) 1 1) 1 [vA] rfl (Src.oneV hOG (by rw [hvA];rfl)) (by unfold maxLen;omega) (by omega) ?_);intro v2 w2 hw2 hb2;have hpS:∀ {g:Nat},g < C->¬ S g:=fun h hs=>(by have:=(HS2.o _ hs).1;omega);have hPp:Own w2 p 56 [.slice a.mo nms a.mc,.slice a.no nn a.nc,.slice a.ho nh a.hc,.slice a.wo nw a.wc,.int .i64 gr.st,.slice (some ⟨u,0,none⟩) nn nn,vl,.slice (some ⟨q,0,none⟩) nn nn,.bool false]:=(HPk.o.under hbB HPk.o.lt).but hb2 (hpS HPC.o);have hLm:LdW w2 C (dE gr) v2 (k + 1):=LdW.more (w:=wB) (V:=V) (S:=S) (Nat.le_trans HCW.o hbB.size) (fun g hg=>⟨(HS2.o g hg).1,aL (HS2.o g hg).2 hbB.size⟩) (fun j hj=>⟨(HS3.o j hj).1.below hbB,(HS3.o j hj).2⟩) (hI2.mono HCW.o) hoff hw2 hb2;have hBt:But (fun g=>g=p) wc w2:=(HBk.o.then_below hbB).trans hb2 (fun g hg hs=>by have:=(HS2.o g hs).1;have:=HCE.o;omega);have HPw:=aH hPp;have HLw:=aH hLm;have HBw:=aH hBt;obtain ⟨ao2,cap2,hv2,-⟩:=hw2.form;subst hv2;have hcl:∀ {ad:Addr} {v:Value},ad.block < C->wr.cell? ad=some v->w2.cell? ad=some v:=fun h hc=>hb2.cell (hpS h) (aC hc hbB);refine ⟨.inr (.inr ⟨HPw.o.lt,HPw.o.cell 6,aL (aL K.2.2.1 hbB.size) hb2.size,hcl HBL.o.2 K.2.2.2.1,hcl HBL.o.2 K.2.2.2.2.1,hcl HBL.o.2 K.2.2.2.2.2.1,hcl HBL.o.2 K.2.2.2.2.2.2.1,hcl HBL.o.2 K.2.2.2.2.2.2.2⟩),?_⟩;have pf:w2.frozen? ⟨p,6,none⟩=false:=HPw.o.thaw 6;have p6:w2.cell? ⟨p,6,none⟩=some vl:=HPw.o.cell 6;have pl:=HPw.o.lt;have HSZ:=aH (show p < w2.heap.size/\w2.cell? ⟨p,6,none⟩=some vl/\B < w2.heap.size/\w2.cell? ⟨B,0,none⟩=some (.slice a.mo nms a.mc)/\w2.cell? ⟨B,1,none⟩=some (.slice a.no nn a.nc)/\w2.cell? ⟨B,2,none⟩=some (.slice a.ho nh a.hc)/\w2.cell? ⟨B,3,none⟩=some (.slice a.wo nw a.wc)/\w2.cell? ⟨B,4,none⟩=some (.int .i64 gr.st) from ⟨pl,p6,aL (aL K.2.2.1 hbB.size) hb2.size,hcl HBL.o.2 K.2.2.2.1,hcl HBL.o.2 K.2.2.2.2.1,hcl HBL.o.2 K.2.2.2.2.2.1,hcl HBL.o.2 K.2.2.2.2.2.2.1,hcl HBL.o.2 K.2.2.2.2.2.2.2⟩);clear K hPp hLm hBt hb2 hw2 hcl hpS hbB hOG hI2 hbx hoff hI hbA HSS ii hz0 hz1 hz2;go_simp;refine aI.one (i:=10) (by kernel_rfl) (aY (v:=.pointer (some ⟨p,0,none⟩)) (w':=w2) rfl (by kernel_rfl) (by go_simp;try rfl) ?_);refine ⟨.inr (.inr HSZ.o),?_⟩;go_simp;refine aI.one (i:=11) (by kernel_rfl) (aY (v:=.pointer (some ⟨p,6,none⟩)) (w':=w2) rfl (by kernel_rfl) (by go_simp;try rfl) ?_);refine ⟨.inr (.inr HSZ.o),?_⟩;go_simp;refine aI.one (i:=12) (by kernel_rfl) (eX (w':=w2.setCell ⟨p,6,none⟩ (.slice ao2 (k + 1) cap2)) rfl (by kernel_rfl) 32 (.tmp 32) (.tmp 30) rfl _ _ rfl rfl (by go_simp;try rfl) ⟨.inl rfl,?_⟩);refine aI.done (by kernel_rfl) ?_ _;have HP9:=aH (HPw.o.put 6 (.slice ao2 (k + 1) cap2));have HL9:=aH (HLw.o.but (But.put w2 p 6 (.slice ao2 (k + 1) cap2)) HPC.o);have HB9:=aH (HBw.o.trans (But.put w2 p 6 (.slice ao2 (k + 1) cap2)) (fun g _ h=>h));generalize w2.setCell ⟨p,6,none⟩ (.slice ao2 (k + 1) cap2)=w9 at *;clear p6 pf pl;go_simp;try go_wp2
    go_roundw
    case rel=>exact ⟨k + 1,_,by go_num,by omega,HP9,HL9,HB9⟩
    case measure=>simp [intOf];omega
   ·
    have hk1:decide ((k:Int) < (nn:Int))=false:=aF hkn;have hk2:decide (k < nn)=false:=aF (by omega);obtain rfl:nn=k:=(by omega);obtain ⟨lo,lc,hvl⟩:∃ lo lc,vl=.slice lo nn lc:=(by obtain ⟨V,S,h1,-⟩:=HLk.o;obtain ⟨ao,cap,e,-⟩:=h1.form;exact ⟨ao,cap,e⟩);subst hvl;have hbp:But (fun g=>g=p) wr (wr.setCell ⟨p,8,none⟩ (.bool true)):=But.put wr p 8 _;have hbc:=HBk.o.trans hbp (fun g _ h=>h);have hpB:p ≠ B:=by have:=HLY.o;have:=HBL.o;omega
    have HS5:=aH (show Sh (wr.setCell ⟨p,8,none⟩ (.bool true)) B p u q C lo lc gr a (dE gr) (fun _=>[],true) from by
     have hly:=HLY.o;have hpc:=HPC.o;have hce:=HCE.o;refine ⟨by omega,by omega,by omega,by omega,by omega,hpc,by omega,?_,?_,⟨fun _=>.slice none 0 0,?_,fun j _=>aO.nil _ _⟩,?_,?_,fun j=>⟨trivial,fun x hx=>(by cases hx)⟩,by have:=hbc.size;omega⟩
     · have h:=HPk.o.put 8 (.bool true);rw [HLN.o];have e:([.slice a.mo gr.ms.length a.mc,.slice a.no gr.ns.length a.nc,.slice a.ho gr.hs.length a.hc,.slice a.wo gr.ws.length a.wc,.int .i64 gr.st]:List Value)=[.slice a.mo nms a.mc,.slice a.no nn a.nc,.slice a.ho nh a.hc,.slice a.wo nw a.wc,.int .i64 gr.st]:=HRW.o;injection e with e0 e;injection e with e1 e;injection e with e2 e;injection e with e3 e;rw [e0,e2,e3];exact h
     · rw [HLN.o];exact HU.o.but hbc (by show ¬ u=p;omega)
     · rw [HLN.o,List.map_const',List.length_range];exact HQ.o.but hbc (by show ¬ q=p;omega)
     · rw [HLN.o];exact (HLk.o.but hbp hpc).at_
     ·
      have h:=HGC.o.but hbc (fun j _ hj e=>by have:=HBE.o;have e:j=p:=e;omega);rw [HBE.o] at h
      exact h)
    have HO5:=aH (HOC.o.but hbc (fun e=>hpB e.symm));have HZ5:=aH (HB2.o.trans (hbc.below (B:=w1.heap.size) HB.o.size (fun j e=>by have:=HLY.o;have:=HW1.o;have e:j=p:=e;omega) |>.mono HB1.o.size));have pf:wr.frozen? ⟨p,8,none⟩=false:=HPk.o.thaw 8;have p8:wr.cell? ⟨p,8,none⟩=some (.bool false):=HPk.o.cell 8;have pl:=HPk.o.lt;go_upto_region 8 with fail;generalize wr.setCell ⟨p,8,none⟩ (.bool true)=w5 at *;clear hbp hbc hpB pf p8 pl HPk HLk HBk;obtain ⟨A,hA⟩:∃ A,zF gr (aZ gr)=A:=⟨_,rfl⟩;rw [hA] at HR0 HTL;have HI0:=aH (B0Y (Rn gr) (dE gr) A nn)
    have HPL:=aH (fun (s:Nx × Bool) (h:wO (Rn gr) (dE gr) A nn s.1)=>show wO (Rn gr) (dE gr) A nn (jT (dE gr) A nn 0 s).1/\(s.2=false->(jT (dE gr) A nn 0 s).2=true->fU nn (jT (dE gr) A nn 0 s).1 nn < fU nn s.1 nn) from
     ⟨Nv (fun j=>(Mr HGD.o HAR.o j).2) nn 0 s (by omega) h,(Ht (fun x h=>by rw [<- HLN.o];exact h.rng) (fun j=>(Mr HGD.o HAR.o j).2) (fun n hn a ha=>by rw [<- hA] at ha;rw [<- HLN.o];exact UH HGD.o _ n (by rw [HLN.o];exact hn) a ha) nn 0 s (by omega) h).2⟩)
    clear hA
    go_loopg [5] (nn * nn + 1) (fun f v5 wr=>∃ (T:Nx) (z:Bool),aQ (RES=if z=true then sI (dE gr) A nn f T else T)/\aQ (z=true->fU nn T nn < f)/\aQ (wO (Rn gr) (dE gr) A nn T)/\aQ (Sh wr B p u q C lo lc gr a (dE gr) (T,z))/\aQ (Own wr B 27 [.slice a.mo nms a.mc,.slice a.no nn a.nc,.slice a.ho nh a.hc,.slice a.wo nw a.wc,.int .i64 gr.st])/\aQ (Below w.heap.size w wr))
    case atStart=>exact ⟨fun _=>[],true,aH (by rw [if_pos rfl];exact HR0.o.symm),aH (fun _=>by have:=Uh nn (fun _=>[]) nn;omega),HI0,HS5,HO5,HZ5⟩
    case round =>
     obtain ⟨T,z,HS,HLK,HI,HSh,HO,HZ⟩:=hrel;have p8:wr.cell? ⟨p,8,none⟩=some (.bool z):=HSh.o.own.cell 8;have p7:wr.cell? ⟨p,7,none⟩=some (.slice (some ⟨q,0,none⟩) nn nn):=(by rw [<- HLN.o];exact HSh.o.own.cell 7);have pl:=HSh.o.own.lt
     cases z with
     | false =>
      have HE:=aH (show RES=T from by rw [HS.o,if_neg (by decide)]);go_wp2;go_ret;obtain ⟨V,hV1,hV2⟩:=HSh.o.nx;refine ⟨q,rfl,⟨V,by rw [<- HLN.o];exact hV1,fun k hk=>by rw [HE.o];exact (hV2 k (by rw [HLN.o];exact hk)).mono (by have:=HBE.o;have:=HBL.o;omega)⟩,by have:=HLY.o;have:=HBE.o;omega,HZ.o⟩
     | true =>
      obtain ⟨f,rfl⟩:∃ f,gk=f + 1:=⟨gk - 1,by have:=HLK.o rfl;omega⟩;have HS1:=aH (show RES=sI (dE gr) A nn (f + 1) T from by rw [HS.o,if_pos rfl]);have HL1:=aH (HLK.o rfl);have pf:wr.frozen? ⟨p,8,none⟩=false:=HSh.o.own.thaw 8;have hbp:But (fun g=>g=p) wr (wr.setCell ⟨p,8,none⟩ (.bool false)):=But.put wr p 8 _;have HSf:=aH (HSh.o.flag false);have HOf:=aH (HO.o.but hbp (by have:=HLY.o;have:=HBL.o;show ¬ B=p;omega));have HZf:=aH (HZ.o.trans (hbp.below (B:=w.heap.size) HZ.o.size (fun j e=>by have:=HLY.o;have:=HBE.o;have e:j=p:=e;omega)));go_upto_region 10 with fail;generalize wr.setCell ⟨p,8,none⟩ (.bool false)=w6 at *;clear hbp pf p8 p7 pl HS5 HO5 HZ5 HS HLK HSh HO HZ;have g1:w6.cell? ⟨B,1,none⟩=some (.slice a.no nn a.nc):=HOf.o.cell 1;have gl:=HOf.o.lt;go_wp2_with fail;clear g1 gl
      go_loopg [5,47] nn (fun j v5 v47 wx=>∃ (k:Nat) (t:Nx × Bool),v47=.int .i64 (k:Int)/\k + j=nn/\aQ (jT (dE gr) A nn 0 (T,false)=jT (dE gr) A (nn - k) k t)/\aQ (Sh wx B p u q C lo lc gr a (dE gr) t)/\aQ (Own wx B 27 [.slice a.mo nms a.mc,.slice a.no nn a.nc,.slice a.ho nh a.hc,.slice a.wo nw a.wc,.int .i64 gr.st])/\aQ (Below w.heap.size w wx))
      case atStart=>exact ⟨0,(T,false),rfl,by omega,aH rfl,HSf,HOf,HZf⟩
      case round =>
       obtain ⟨k,t,rfl,hkj,HP,HSx,HOx,HZx⟩:=hrel;by_cases hk:k < nn
       ·
        obtain ⟨j,rfl⟩:∃ j,gk=j + 1:=⟨gk - 1,by omega⟩;have hk1:decide ((k:Int) < (nn:Int))=true:=aT (by omega);have hk2:decide (k < nn)=true:=aT hk;have hw1:IntKind.i64.wrap ((k:Int) + 1)=(k:Int) + 1:=wI
        have HPN:=aH (show jT (dE gr) A nn 0 (T,false)=jT (dE gr) A (nn - (k + 1)) (k + 1) (eQ (dE gr) (A k) t) from by
         rw [HP.o,show nn - k=(nn - (k + 1)) + 1 by omega]
         rfl)
        have HC:=aH (HTL.o B p u q C lo lc k (by rw [HLN.o];exact hk) t wr HSx.o);go_wp2_with fail;refine HC.o.mono ?_;rintro e w7 ⟨he,hS7,hB7⟩;subst he;have HS7:=aH hS7;have HO7:=aH (HOx.o.but hB7 (by have:=HLY.o;have:=HBL.o;rintro (e | e);have e:B=p:=e;omega;have e:B=q:=e;omega));have HZ7:=aH (HZx.o.trans (hB7.below (B:=w.heap.size) HZx.o.size (fun j e=>by have:=HLY.o;have:=HBE.o;rcases e with e | e <;> omega)));clear hS7 hB7;go_wp2
        go_roundg j
        case measure=>omega
        case rel=>exact ⟨k + 1,_,by go_num,by omega,HPN,HS7,HO7,HZ7⟩
       ·
        have hk1:decide ((k:Int) < (nn:Int))=false:=aF (by omega);have hk2:decide (k < nn)=false:=aF hk;obtain ⟨T1,z1⟩:=t;have HP2:=aH (show jT (dE gr) A nn 0 (T,false)=(T1,z1) from HP.o.trans (by rw [show nn - k=0 by omega];rfl))
        have HSN:=aH (show RES=if z1=true then sI (dE gr) A nn f T1 else T1 from by
         rw [HS1.o]
         show (match jT (dE gr) A nn 0 (T,false) with
          | (T',true)=>sI (dE gr) A nn f T'
          | (T',false)=>T')=_
         rw [HP2.o]
         cases z1 <;> rfl)
        have hpl:=HPL.o (T,false) HI.o;rw [HP2.o] at hpl;have HIN:=aH (show wO (Rn gr) (dE gr) A nn T1 from hpl.1)
        have HLN2:=aH (show z1=true->fU nn T1 nn < f from fun h=>by
         have h1:fU nn T1 nn < fU nn T nn:=hpl.2 rfl h;have h2:=HL1.o
         omega)
        clear hpl;go_wp2
        go_roundg f
        case measure=>omega
        case rel=>exact ⟨T1,z1,HSN,HLN2,HIN,HSx,HOx,HZx⟩
 end Go.Proofs.YthddifjhoniacaaGreat
