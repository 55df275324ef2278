import Derived.Test.YthddifjhoniacaaGreatCl
namespace Go.Proofs.YthddifjhoniacaaGreat
set_option linter.unusedVariables false
set_option maxHeartbeats 3200000
set_option maxRecDepth 1000000
open Go.RowKit Go.Sort
inductive Rea (C:Nx):Nat->Nat->Prop
 | one {i j:Nat}:(j:Int) ∈ C i->Rea C i j
 | more {i j k:Nat}:Rea C i j->(k:Int) ∈ C j->Rea C i k
theorem Rea.head {C:Nx} {i j k:Nat} (h:(j:Int) ∈ C i) (hr:Rea C j k):Rea C i k:=by
 induction hr with
 | one h2=>exact (Rea.one h).more h2
 | more _ h2 ih=>exact ih.more h2
theorem KI {to1:Int}:∀ (L:List Int) (s:Rcs),rcK to1 L s=none->to1 ∈ L
 | [],s,h=>by cases h
 | k :: r,s,h=>by
  unfold rcK at h;split at h
  · next e=>exact e ▸ List.mem_cons_self
  split at h
  · exact List.mem_cons_of_mem _ (KI r _ h)
  · exact List.mem_cons_of_mem _ (KI r _ h)
theorem Vj {to1:Int} {N:Nat}:∀ (L:List Int) (M:Nat->Bool) (W:List Int) (s':Rcs),(∀ y ∈ L,0<=y/\y < (N:Int))->rcK to1 L (M,W)=some s' →
  (∀ m,M m=true->s'.1 m=true)/\(∀ y ∈ W,y ∈ s'.2)/\(∀ y ∈ s'.2,y ∈ W\/y ∈ L)/\(∀ k ∈ L,k ≠ to1/\s'.1 k.toNat=true)/\(∀ m,s'.1 m=true->M m=true\/(m:Int) ∈ s'.2)/\bF s'.1 N + s'.2.length<=bF M N + W.length
 | [],M,W,s',hL,h=>by have h:some (M,W)=some s':=h;injection h with h;subst h;exact ⟨fun _ h=>h,fun _ h=>h,fun _ h=>.inl h,(fun k hk=>by cases hk),fun _ h=>.inl h,Nat.le_refl _⟩
 | k :: r,M,W,s',hL,h=>by
  unfold rcK at h;have hk:=hL k List.mem_cons_self;have hr:∀ y ∈ r,0<=y/\y < (N:Int):=fun y hy=>hL y (List.mem_cons_of_mem _ hy);split at h
  · cases h
  next hne =>
  split at h
  ·
   next hm =>
   obtain ⟨h1,h2,h3,h4,h5,h6⟩:=Vj r M W s' hr h;refine ⟨h1,h2,fun y hy=>(h3 y hy).imp id (List.mem_cons_of_mem _),fun y hy=>?_,h5,h6⟩;rcases List.mem_cons.1 hy with rfl | hy
   · exact ⟨hne,h1 _ hm⟩
   · exact h4 y hy
  ·
   next hm =>
   have hm:M k.toNat=false:=Bool.eq_false_iff.2 hm;have e:((k.toNat:Nat):Int)=k:=(by omega);obtain ⟨h1,h2,h3,h4,h5,h6⟩:=Vj r (dC M k.toNat) (W ++ [k]) s' hr h;have hs:∀ m,M m=true->dC M k.toNat m=true:=fun m hm=>(by unfold dC;split <;> simp [hm]);refine ⟨fun m hm=>h1 m (hs m hm),fun y hy=>h2 y (List.mem_append.2 (.inl hy)),fun y hy=>?_,fun y hy=>?_,fun m hm2=>?_,?_⟩
   ·
    rcases h3 y hy with h | h
    ·
     rcases List.mem_append.1 h with h | h
     · exact .inl h
     · exact .inr (List.mem_singleton.1 h ▸ List.mem_cons_self)
    · exact .inr (List.mem_cons_of_mem _ h)
   ·
    rcases List.mem_cons.1 hy with rfl | hy
    · exact ⟨hne,h1 _ (by unfold dC;rw [if_pos rfl])⟩
    · exact h4 y hy
   ·
    rcases h5 m hm2 with h | h
    ·
     unfold dC at h;split at h
     · next e2=>exact .inr (h2 _ (List.mem_append.2 (.inr (List.mem_singleton.2 (by rw [e2,e])))))
     · exact .inl h
    · exact .inr h
   · have:=He (N:=N) (show k.toNat < N from by omega) hm;rw [List.length_append] at h6;have:[k].length=1:=rfl;omega
theorem SC {CL:Nx} {N b:Nat} (hC:∀ n,n < N->∀ y ∈ CL n,0<=y/\y < (N:Int)):∀ (f:Nat) (M:Nat->Bool) (W:List Int),(∀ y ∈ W,0<=y/\y < (N:Int))->rcF CL (b:Int) f (M,W)=true->∃ y:Nat,(y:Int) ∈ W/\Rea CL y b
 | 0,M,W,hW,h=>by cases h
 | f + 1,M,W,hW,h=>by
  unfold rcF at h;by_cases hn:W=[]
  · rw [if_pos hn] at h;cases h
  ·
   rw [if_neg hn] at h;obtain ⟨L0,z,e,e1,e2⟩:=Zg W hn;have hz:=hW z (e ▸ List.mem_append.2 (.inr (List.mem_singleton.2 rfl)));have hzm:((z.toNat:Nat):Int) ∈ W:=(by rw [show ((z.toNat:Nat):Int)=z from by omega,e];simp);simp only [e1,e2] at h;have hCz:=hC z.toNat (by omega)
   cases hk:rcK (b:Int) (CL z.toNat) (M,L0) with
   | none=>exact ⟨z.toNat,hzm,.one (KI _ _ hk)⟩
   | some s' =>
    rw [hk] at h;obtain ⟨h1,h2,h3,h4,h5,h6⟩:=Vj (N:=N) _ _ _ _ hCz hk;have hr:∀ y ∈ s'.2,0<=y/\y < (N:Int):=fun y hy=>by
     rcases h3 y hy with h | h
     · exact hW y (e ▸ List.mem_append.2 (.inl h))
     · exact hCz y h
    obtain ⟨y,hy,hR⟩:=SC hC f s'.1 s'.2 hr h;rcases h3 _ hy with h | h
    · exact ⟨y,e ▸ List.mem_append.2 (.inl h),hR⟩
    · exact ⟨z.toNat,hzm,.head h hR⟩
theorem A1Z {CL:Nx} {N a:Nat} {to1:Int} (hC:∀ n,n < N->∀ y ∈ CL n,0<=y/\y < (N:Int)):∀ (f:Nat) (M:Nat->Bool) (W:List Int),(∀ y ∈ W,0<=y/\y < (N:Int))->bF M N + W.length<=f →
  (∀ m,m=a\/M m=true->(m:Int) ∈ W\/∀ k ∈ CL m,k ≠ to1/\M k.toNat=true)->rcF CL to1 f (M,W)=false->∃ M':Nat->Bool,∀ m,m=a\/M' m=true->∀ k ∈ CL m,k ≠ to1/\M' k.toNat=true
 | 0,M,W,hW,hf,hI,h=>⟨M,fun m hm=>by
   rcases hI m hm with h | h
   · have:W=[]:=List.eq_nil_of_length_eq_zero (by omega);rw [this] at h;cases h
   · exact h⟩
 | f + 1,M,W,hW,hf,hI,h=>by
  by_cases hn:W=[]
  ·
   exact ⟨M,fun m hm=>by
    rcases hI m hm with h | h
    · rw [hn] at h;cases h
    · exact h⟩
  ·
   unfold rcF at h;rw [if_neg hn] at h;obtain ⟨L0,z,e,e1,e2⟩:=Zg W hn;have hz:=hW z (e ▸ List.mem_append.2 (.inr (List.mem_singleton.2 rfl)));simp only [e1,e2] at h;have hCz:=hC z.toNat (by omega)
   cases hk:rcK to1 (CL z.toNat) (M,L0) with
   | none=>rw [hk] at h;cases h
   | some s' =>
    rw [hk] at h;obtain ⟨h1,h2,h3,h4,h5,h6⟩:=Vj (N:=N) _ _ _ _ hCz hk;have hr:∀ y ∈ s'.2,0<=y/\y < (N:Int):=fun y hy=>by
     rcases h3 y hy with h | h
     · exact hW y (e ▸ List.mem_append.2 (.inl h))
     · exact hCz y h
    refine A1Z hC f s'.1 s'.2 hr ?_ (fun m hm=>?_) h
    · rw [e,List.length_append] at hf;have:[z].length=1:=rfl;omega
    ·
     have hold:(m:Int) ∈ W\/(∀ k ∈ CL m,k ≠ to1/\M k.toNat=true)\/(m:Int) ∈ s'.2:=by
      rcases hm with hm | hm
      ·
       rcases hI m (.inl hm) with h | h
       · exact .inl h
       · exact .inr (.inl h)
      ·
       rcases h5 m hm with h | h
       ·
        rcases hI m (.inr h) with h | h
        · exact .inl h
        · exact .inr (.inl h)
       · exact .inr (.inr h)
     rcases hold with h | h | h
     ·
      rw [e] at h;rcases List.mem_append.1 h with h | h
      · exact .inl (h2 _ h)
      · have h:=List.mem_singleton.1 h;refine .inr (fun k hk=>?_);have em:m=z.toNat:=(by omega);rw [em] at hk;exact h4 k hk
     · exact .inr (fun k hk=>⟨(h k hk).1,h1 _ (h k hk).2⟩)
     · exact .inl h
theorem Vk {CL:Nx} {N a b:Nat} (hC:∀ n,n < N->∀ y ∈ CL n,0<=y/\y < (N:Int)) (ha:a < N):Yk CL N a b=true ↔ Rea CL a b:=by
 have hW:∀ y ∈ [(a:Int)],0<=y/\y < (N:Int):=fun y hy=>by rw [List.mem_singleton.1 hy];omega
 constructor
 ·
  intro h;obtain ⟨y,hy,hR⟩:=SC hC (N + 1) _ _ hW h;have:y=a:=by have:=List.mem_singleton.1 hy;omega
  exact this ▸ hR
 ·
  intro hR
  cases hb:Yk CL N a b with
  | true=>rfl
  | false =>
   obtain ⟨M',hM⟩:=A1Z (a:=a) hC (N + 1) _ _ hW (by have:=iQ (fun _=>false) N;have:[(a:Int)].length=1:=rfl;omega) (fun m hm=>.inl (by
    rcases hm with rfl | hm
    · exact List.mem_singleton.2 rfl
    · cases hm)) hb
   have:∀ {c:Nat},Rea CL a c->(c:Int) ≠ (b:Int)/\M' c=true:=by
    intro c hR
    induction hR with
    | one h=>have:=hM a (.inl rfl) _ h;rwa [Int.toNat_natCast] at this
    | more _ h ih=>have:=hM _ (.inr ih.2) _ h;rwa [Int.toNat_natCast] at this
   exact absurd rfl (this hR).1
theorem ZE {CL:Nx} {N:Nat}:∀ c n,Tc CL N c n < 0 ↔ ∀ m,n<=m->m < n + c->Yk CL N m m=false
 | 0,n=>⟨fun _ m h1 h2=>by omega,fun _=>by show (-1:Int) < 0;decide⟩
 | c + 1,n=>by
  unfold Tc;split
  · next h=>exact ⟨fun h2=>by omega,fun h2=>by rw [h2 n (Nat.le_refl _) (by omega)] at h;cases h⟩
  ·
   next h =>
   rw [ZE c (n + 1)];refine ⟨fun h2 m h3 h4=>?_,fun h2 m h3 h4=>h2 m (by omega) (by omega)⟩;by_cases e:m=n
   · rw [e];exact Bool.eq_false_iff.2 h
   · exact h2 m (by omega) (by omega)
theorem A9g {CL:Nx} {N:Nat} (hC:∀ n,n < N->∀ y ∈ CL n,0<=y/\y < (N:Int)):Au CL N < 0 ↔ ∀ m,m < N->¬ Rea CL m m:=by
 unfold Au;rw [ZE];constructor
 ·
  intro h m hm hR;have h1:=h m (Nat.zero_le _) (by omega);rw [(Vk hC hm).2 hR] at h1
  cases h1
 ·
  intro h m _ hm
  cases hb:Yk CL N m m with
  | false=>rfl
  | true=>exact absurd ((Vk hC (by omega)).1 hb) (h m (by omega))
structure NE (CL:Nx) (N:Nat) (D:Nat->Bool) (cnt:Nat):Prop where
 rk:∃ r:Nat->Nat,∀ i,D i=true->r i < cnt/\∀ k ∈ CL i,D k.toNat=true/\r k.toNat < r i
 num:cnt + bF D N=N
theorem NE.zero (CL:Nx) (N:Nat):NE CL N (fun _=>false) 0:=by
 refine ⟨⟨fun _=>0,fun i h=>by cases h⟩,?_⟩;have:∀ n,bF (fun _=>false) n=n:=fun n=>by
  induction n with
  | zero=>rfl
  | succ n ih=>unfold bF;rw [ih];rfl
 rw [this];omega
theorem NE.put {CL:Nx} {N:Nat} {D:Nat->Bool} {cnt i:Nat} (h:NE CL N D cnt) (hi:i < N) (hd:D i=false) (hall:∀ k ∈ CL i,D k.toNat=true):NE CL N (dC D i) (cnt + 1):=by
 obtain ⟨⟨r,hr⟩,hn⟩:=h;have ne:∀ j,D j=true->j ≠ i:=fun j hj e=>by rw [e,hd] at hj;cases hj
 refine ⟨⟨fun j=>if j=i then cnt else r j,fun j hj=>?_⟩,?_⟩
 ·
  by_cases e:j=i
  · subst e;refine ⟨by simp,fun k hk=>?_⟩;have h1:=hall k hk;have h2:=ne _ h1;refine ⟨by unfold dC;rw [if_neg h2];exact h1,?_⟩;simp only [if_neg h2,if_true];exact (hr _ h1).1
  · have hj:D j=true:=(by unfold dC at hj;rwa [if_neg e] at hj);obtain ⟨h1,h2⟩:=hr j hj;refine ⟨by simp only [if_neg e];omega,fun k hk=>?_⟩;obtain ⟨h3,h4⟩:=h2 k hk;have h5:=ne _ h3;exact ⟨by unfold dC;rw [if_neg h5];exact h3,by simp only [if_neg e,if_neg h5];exact h4⟩
 · have:=iR D i hd N;rw [if_pos hi] at this;have:=gZ D i hd N hi;omega
theorem IC {D:Nat->Bool}:∀ N,0 < bF D N->∃ i,i < N/\D i=false
 | 0,h=>by simp [bF] at h
 | N + 1,h=>by
  cases hd:D N with
  | false=>exact ⟨N,Nat.lt_succ_self _,hd⟩
  | true =>
   unfold bF at h;rw [hd,if_pos rfl] at h;obtain ⟨i,hi,h2⟩:=IC N h;exact ⟨i,by omega,h2⟩
theorem B8Y {g:Nat->Nat} {N:Nat} (hg:∀ n,g n < N):∃ a b,a < b/\g a=g b:=by
 by_cases h:∃ a b,a < b/\g a=g b
 · exact h
 ·
  exfalso;have hnd:((List.range (N + 1)).map g).Nodup:=by refine List.pairwise_map.2 ((List.pairwise_lt_range (n:=N + 1)).imp ?_);intro a b hab e;exact h ⟨a,b,hab,e⟩
  have h1:=hnd.length_le_of_subset (l₂:=List.range N) (fun x hx=>by
   obtain ⟨n,-,e⟩:=List.mem_map.1 hx
   exact List.mem_range.2 (e ▸ hg n))
  rw [List.length_map,List.length_range,List.length_range] at h1;omega
theorem NE.all {CL:Nx} {N:Nat} {D:Nat->Bool} {cnt:Nat} (hC:∀ n,n < N->∀ y ∈ CL n,0<=y/\y < (N:Int)) (h:NE CL N D cnt) (hend:∀ i,i < N->D i=false->∃ k ∈ CL i,D k.toNat=false):cnt=N ↔ Au CL N < 0:=by
 rw [A9g hC];obtain ⟨⟨r,hr⟩,hn⟩:=h;constructor
 ·
  intro hc m hm hR;have hD:∀ i,i < N->D i=true:=fun i hi=>by
   cases hd:D i with
   | true=>rfl
   | false=>have:=gZ D i hd N hi;omega
  have:∀ {c:Nat},Rea CL m c->D c=true/\r c < r m:=by
   intro c hR
   induction hR with
   | one h=>have:=(hr m (hD m hm)).2 _ h;rwa [Int.toNat_natCast] at this
   | more _ h ih=>have:=(hr _ ih.1).2 _ h;rw [Int.toNat_natCast] at this;exact ⟨this.1,by omega⟩
  exact absurd (this hR).2 (Nat.lt_irrefl _)
 ·
  intro hno;by_cases hc:cnt=N
  · exact hc
  ·
   exfalso;obtain ⟨i0,hi0,hd0⟩:=IC (D:=D) N (by omega);have hex:∀ i:{i:Nat // i < N/\D i=false},∃ j:{j:Nat // j < N/\D j=false},(j.1:Int) ∈ CL i.1:=fun i=>by obtain ⟨k,hk,hd⟩:=hend i.1 i.2.1 i.2.2;have:=hC i.1 i.2.1 k hk;exact ⟨⟨k.toNat,by omega,hd⟩,by rw [show ((k.toNat:Nat):Int)=k from by omega];exact hk⟩
   let nx:{i:Nat // i < N/\D i=false}->{i:Nat // i < N/\D i=false}:=fun i=>Classical.choose (hex i)
   have hnx:∀ i,((nx i).1:Int) ∈ CL i.1:=fun i=>Classical.choose_spec (hex i)
   let it:Nat->{i:Nat // i < N/\D i=false}:=fun n=>Nat.rec ⟨i0,hi0,hd0⟩ (fun _ i=>nx i) n
   have hit:∀ n,((it (n + 1)).1:Int) ∈ CL (it n).1:=fun n=>hnx (it n);have hre:∀ a d,Rea CL (it a).1 (it (a + d + 1)).1:=fun a d=>by
    induction d with
    | zero=>exact .one (hit a)
    | succ d ih=>exact ih.more (hit (a + d + 1))
   obtain ⟨a,b,hab,e⟩:=B8Y (g:=fun n=>(it n).1) (fun n=>(it n).2.1);have h1:=hre a (b - a - 1);rw [show a + (b - a - 1) + 1=b from by omega] at h1;have e:(it a).1=(it b).1:=e;rw [<- e] at h1;exact hno _ (it a).2.1 h1
theorem KJ (gr:Gj) (a:Gv) (hg:Good gr) (hw:WaG gr.ns gr.ws gr.ws.length) (n0:Int) (T:Nx) (nl:Nat) (no:Option Addr) (nc:Nat) (hT:∀ k,k < nl->(∀ y ∈ T k,0<=y/\y < (gr.ns.length:Int))/\((T k).length:Int)<=1000) (w:World) (hG:dG w gr a) (hN:NxM w no nl T) :
  Calls Tryz.prog 34 #[grv gr a,.slice no nl nc,.int .i64 n0] w (fun e w'=>∃ v,e=.returned v/\aO w' w.heap.size v (Gn gr T nl n0)/\Below w.heap.size w w'):=by
 have HGD:=aH hg;have HWA:=aH hw;have HT0:=aH hT;have HB1:=gB w a gr;have HO1:=gO w a gr;have HG1:=aH (hG.below HB1.o);have HN1:=aH (hN.below HB1.o);have HNU:=aH (fun W h=>nW gr a hg W h);have HPU:=aH (fun (C:Nat) (M:List Int) (j:Int) (hM:Rg gr.ns.length M) (u:Value) (W:World) (h:aO W C u M) (hC:C<=W.heap.size)=>vK M j (by have:=hM.len;have:=hg.len;omega) u C W h hC);have HBO:=aH (fun (n:Nat) (hn:n < gr.ns.length) W h=>uQ gr a hg n hn W h);have HBL:=aH (fun (n:Nat) (hn:n < gr.ns.length)=>jK hg hn);have hn160:=hg.len;obtain ⟨RES,hRES⟩:∃ z,Gn gr T nl n0=z:=⟨_,rfl⟩;have HRI:=aH (show RES=if 0<=n0/\n0 < (gr.ns.length:Int) then jE gr T nl n0.toNat else [] from by rw [<- hRES];rfl);rw [hRES];unfold BoE at HNU;unfold grv at HNU HBO;unfold grv;obtain ⟨nn,nh,nms,nw,hnn,hnh,hnms,hnw⟩:=nG gr;have HLN:=aH hnn;have HLW:=aH hnw;simp only [hnn,hnh,hnms,hnw] at HO1 HB1 HG1 HN1 HNU HBO HRI hn160 HPU HBL HT0;rw [hnn,hnh,hnms,hnw];obtain ⟨B,hB⟩:∃ B,w.heap.size=B:=⟨_,rfl⟩;have HBE:=aH hB;have HW1:=aH (show (w.alloc (.cells #[.slice a.mo nms a.mc,.slice a.no nn a.nc,.slice a.ho nh a.hc,.slice a.wo nw a.wc,.int .i64 gr.st] 27)).heap.size=B + 1 from by rw [<- hB];simp);rw [hB] at HO1;clear hg hw hT hG hN hRES hnn hnh hnms hnw;go_enter Tryz.func34,Tryz.ntmps34;go_upto_region 1 with fail;generalize w.alloc (.cells #[.slice a.mo nms a.mc,.slice a.no nn a.nc,.slice a.ho nh a.hc,.slice a.wo nw a.wc,.int .i64 gr.st] 27)=w1 at *;try rw [hB]
 clear hB
 have HCG:=aH (show ∀ W,Below w1.heap.size w1 W->W.cell? ⟨B,0,none⟩=some (.slice a.mo nms a.mc)/\W.cell? ⟨B,1,none⟩=some (.slice a.no nn a.nc)/\W.cell? ⟨B,2,none⟩=some (.slice a.ho nh a.hc)/\W.cell? ⟨B,3,none⟩=some (.slice a.wo nw a.wc)/\W.cell? ⟨B,4,none⟩=some (.int .i64 gr.st)/\B < W.heap.size from fun W h=>by
  have q:=HO1.o.under h HO1.o.lt
  exact ⟨q.cell 0,q.cell 1,q.cell 2,q.cell 3,q.cell 4,q.lt⟩)
 have HSZ:=aH (show B<=w1.heap.size from by have:=HW1.o;omega);obtain ⟨g0,g1,g2,g3,g4,gl⟩:=HCG.o w1 (Below.refl _ _);by_cases h0:n0 < 0
 · have h0d:decide (n0 < 0)=true:=aT h0;have HE:=aH (show RES=[] from by rw [HRI.o,if_neg (fun g=>by omega)]);go_wp2;go_ret;rw [HE.o];exact ⟨_,rfl,aO.nil _ _,HB1.o⟩
 ·
  have h0d:decide (n0 < 0)=false:=aF h0;by_cases h1:(nn:Int)<=n0
  · have h1d:decide ((nn:Int)<=n0)=true:=aT h1;have HE:=aH (show RES=[] from by rw [HRI.o,if_neg (fun g=>by omega)]);go_wp2;go_ret;rw [HE.o];exact ⟨_,rfl,aO.nil _ _,HB1.o⟩
  ·
   have h1d:decide ((nn:Int)<=n0)=false:=aF h1;obtain ⟨n,rfl⟩:∃ k:Nat,n0=(k:Int):=⟨n0.toNat,by omega⟩;have hnk:n < nn:=(by omega);have HNN:=aH hnk;have h1n:decide (nn<=n)=false:=aF (by omega);have hn1:decide ((n:Int) < (nn:Int))=true:=aT (by omega);have hn2:decide (n < nn)=true:=aT hnk;obtain ⟨x,hx⟩:∃ x,gr.ns[n]?=some x:=⟨_,aG (by have:=HLN.o;omega)⟩;have HX:=aH hx;have HRS:=aH (show RES=if x.op=11 then bT (Dp (aZ gr) x.op x.ks) (bY gr n:Int) else if x.op=13 then AX gr T nl n x.mo (Dp (aZ gr) x.op x.ks) else Dp (aZ gr) x.op x.ks from by rw [HRI.o,if_pos (by omega),Int.toNat_natCast];unfold jE;rw [hx]);have HFR:=aH (show Rg nn (Dp (aZ gr) x.op x.ks) from by rw [<- HLN.o];exact VB HGD.o hx (aZ gr));obtain ⟨FR,hFR⟩:∃ z,Dp (aZ gr) x.op x.ks=z:=⟨_,rfl⟩;have HF0:=aH (show FR=Yp (aZ gr) x.op [] (x.ks.drop 0) from by rw [<- hFR];rfl);have HKID:=aH (HGD.o.kid x (aM hx));have hkl:=HGD.o.kl x (aM hx);rw [hFR] at HRS HFR;go_wp2_with fail;refine (HNU.o w1 HG1.o).mono ?_;rintro e w3 ⟨u,he,hu,-,hb3⟩;subst he;have HU3:=aH hu;have HR3:=aH hb3;have HG3:=aH (HG1.o.below hb3);clear g0 g1 g2 g3 g4 gl hb3 hu hFR;obtain ⟨b,off,ko,kc,hno,hb,hcap,c0,c1,c2,c3,c4,c5,c6,c7,c8,c9,hkk⟩:=HG3.o.1 n x hx;obtain ⟨nk,hnk⟩:∃ z,x.ks.length=z:=⟨_,rfl⟩;have HNK:=aH hnk;obtain ⟨op,hop⟩:∃ z,x.op=z:=⟨_,rfl⟩;have hkc:=hcap.2;rw [hnk] at c6 hkl hkc;rw [hop] at c0 HRS HF0;obtain ⟨g0,g1,g2,g3,g4,gl⟩:=HCG.o w3 HR3.o;rw [hno] at g1;have hbl:Below w3.heap.size w3 (w3.alloc (.cells #[.int .i64 op,.string x.tx,.int .u64 x.s0,.int .u64 x.s1,.int .u64 x.s2,.int .u64 x.s3,.slice ko nk kc,.int .i64 x.tg,.int .i64 (x.mo:Int),.int .i64 x.ru] 45)):=bA _;have HR4:=aH (HR3.o.trans (hbl.mono HR3.o.size));have HK4:=aH (hkk.below hbl);have HO4:=aH (Own.fresh w3 45 [.int .i64 op,.string x.tx,.int .u64 x.s0,.int .u64 x.s1,.int .u64 x.s2,.int .u64 x.s3,.slice ko nk kc,.int .i64 x.tg,.int .i64 (x.mo:Int),.int .i64 x.ru]);have HU4:=aH (HU3.o.under hbl HU3.o.lt);clear hx hkk hbl hnk hop HU3;go_upto_region 6 with fail;obtain ⟨X,hX⟩:∃ z,w3.heap.size=z:=⟨_,rfl⟩;rw [hX] at HO4;generalize w3.alloc (.cells #[.int .i64 op,.string x.tx,.int .u64 x.s0,.int .u64 x.s1,.int .u64 x.s2,.int .u64 x.s3,.slice ko nk kc,.int .i64 x.tg,.int .i64 (x.mo:Int),.int .i64 x.ru] 45)=w4 at *;try rw [hX]
   clear c0 c1 c2 c3 c4 c5 c6 c7 c8 c9 hb hno g0 g1 g2 g3 g4 gl hX hcap;have HS4:=aH (Nat.le_trans HSZ.o HR4.o.size);have hkc2:(nk:Int)<=kc:=by omega
   go_upto_block 0 with fail
   go_cut [9] (fun s9 wx=>∃ vv:Value,vv=s9/\aQ (aO wx B vv FR)/\aQ (Below w4.heap.size w4 wx))
   case first =>
    go_wp2_with fail
    go_loopw [9,10] (fun v9 v10 wr=>∃ (i:Nat) (M:List Int) (vv:Value),vv=v9/\v10=.int .i64 (i:Int)/\(i:Int)<=nk/\aQ (FR=Yp (aZ gr) op M (x.ks.drop i))/\aQ (aO wr B vv M)/\aQ (Rg nn M)/\aQ (Below w4.heap.size w4 wr)) (fun _ v10 _=>nk - (intOf v10).toNat)
    case atStart=>exact ⟨0,[],_,rfl,rfl,by omega,HF0,aH (aO.nil _ _),aH (Rg.nil _),aH (Below.refl _ _)⟩
    case round =>
     obtain ⟨i,M,vv,rfl,rfl,hi,HF,HI,HLM,HB⟩:=hrel;have hOY:=HO4.o.under HB.o HO4.o.lt;have y6:wr.cell? ⟨X,6,none⟩=some (.slice ko nk kc):=hOY.cell 6;have yl:=hOY.lt;clear hOY;by_cases hin:(i:Int) < nk
     ·
      have hi1:decide ((i:Int) < (nk:Int))=true:=aT hin;have hi2:decide (i < nk)=true:=aT (by omega);have hi3:i < nk:=(by omega);have hw1:IntKind.i64.wrap ((i:Int) + 1)=(i:Int) + 1:=wI;obtain ⟨k,hk⟩:∃ z,x.ks[i]?=some z:=⟨_,aG (by have:=HNK.o;omega)⟩;have hkn:k < nn:=(by have:=HKID.o k (aM hk);have:=HLN.o;omega);have hk1:decide ((k:Int) < (nn:Int))=true:=aT (by omega);have hk2:decide (k < nn)=true:=aT hkn;have HST:=aH (HF.o.trans (SF hk));obtain ⟨kb,koff,hko,-,-,q2⟩:=HK4.o i k hk;have HQ2:=aH q2;have q0:=aC q2 HB.o;have kbl:=World.block_lt_of_cell? wr _ q0;subst hko;have HPW:=aH (HPU.o B M (k:Int) HLM.o vv wr HI.o (Nat.le_trans HS4.o HB.o.size));clear hk q2;go_wp2_with fail;refine HPW.o.mono ?_;rintro e w5 ⟨v5,he,hI5,hb5⟩;subst he;have HI5:=aH hI5;have HB5:=aH (aD HB.o hb5);have HL5:=aH (HLM.o.put (y:=(k:Int)) ⟨by omega,by omega⟩);clear hI5 hb5 q0 kbl HPW y6 yl;have hOX:=HO4.o.under HB5.o HO4.o.lt;have y0:w5.cell? ⟨X,0,none⟩=some (.int .i64 op):=hOX.cell 0;have y6:w5.cell? ⟨X,6,none⟩=some (.slice (some ⟨kb,koff,none⟩) nk kc):=hOX.cell 6;have yl:=hOX.lt;have q0:=aC HQ2.o HB5.o;have kbl:=World.block_lt_of_cell? w5 _ q0;have hUX:=HU4.o.under HB5.o HU4.o.lt;have u0:w5.cell? ⟨u,k,none⟩=some (.bool (aZ gr k)):=(hUX.cell k).trans (bH _ _ k (by first | exact hkn | (rw [HLN.o];exact hkn)));have ul:=hUX.lt;obtain ⟨nb,hnb⟩:∃ z,aZ gr k=z:=⟨_,rfl⟩;rw [hnb] at u0 HST;clear hnb hOX hUX;by_cases h4:op=4
      ·
       subst h4
       cases nb with
       | true =>
        have HSN:=aH (show FR=Yp (aZ gr) 4 (bT M (k:Int)) (x.ks.drop (i + 1)) from by rw [HST.o,if_neg (by simp)]);go_wp2
        go_roundw
        case rel=>exact ⟨i + 1,_,_,rfl,by go_num,by omega,HSN,HI5,HL5,HB5⟩
        case measure=>simp [intOf];omega
       | false =>
        have HSN:=aH (show FR=bT M (k:Int) from by rw [HST.o,if_pos ⟨rfl,rfl⟩]);go_wp2_with fail
        go_meet
        rw [HSN.o];exact ⟨_,rfl,HI5,HB5⟩
      ·
       have h4b:(op == 4)=false:=aN.2 h4;have h4d:decide (op=4)=false:=aF h4;have HSN:=aH (show FR=Yp (aZ gr) op (bT M (k:Int)) (x.ks.drop (i + 1)) from by rw [HST.o,if_neg (fun g=>h4 g.1)]);go_wp2
       go_roundw
       case rel=>exact ⟨i + 1,_,_,rfl,by go_num,by omega,HSN,HI5,HL5,HB5⟩
       case measure=>simp [intOf];omega
     ·
      have hi1:decide ((i:Int) < (nk:Int))=false:=aF hin;have hi2:decide (i < nk)=false:=aF (by omega);have HSN:=aH (show FR=M from by rw [HF.o,List.drop_of_length_le (by have:=HNK.o;omega),A1g]);go_wp2_with fail
      go_meet
      rw [HSN.o];exact ⟨_,rfl,HI,HB⟩
   case rest =>
   obtain ⟨vv,rfl,HI,HB⟩:=hcut;obtain ⟨w5,hw5⟩:∃ z,z=wc:=⟨_,rfl⟩;subst hw5;have HR5:=aH (HR4.o.trans (HB.o.mono HR4.o.size));have HS5:=aH (Nat.le_trans HS4.o HB.o.size);have HO5:=aH (HO4.o.under HB.o HO4.o.lt);have y0:w5.cell? ⟨X,0,none⟩=some (.int .i64 op):=HO5.o.cell 0;have yl:=HO5.o.lt;obtain ⟨g0,g1,g2,g3,g4,gl⟩:=HCG.o w5 HR5.o;clear HR4 HS4 HO4 HB HU4 HK4;by_cases h11:op=11
   · subst h11;have HE:=aH (show RES=bT FR (bY gr n:Int) from by rw [HRS.o,if_pos rfl]);have HC:=aH (HBO.o n (by first | exact HNN.o | (rw [HLN.o];exact HNN.o)) w5 (HG1.o.below HR5.o));have HBM:=aH (HBL.o n (by first | exact HNN.o | (rw [HLN.o];exact HNN.o)));obtain ⟨bg,hbg⟩:∃ z,bY gr n=z:=⟨_,rfl⟩;rw [hbg] at HC HE HBM;clear hbg;go_wp2_with fail;refine HC.o.mono ?_;rintro e w6 ⟨he,hb6⟩;subst he;have HPW:=aH (HPU.o B FR (bg:Int) HFR.o vv w6 (HI.o.below hb6) (Nat.le_trans HS5.o hb6.size));have HR6:=aH (HR5.o.trans (hb6.mono HR5.o.size));have HO6:=aH (HO5.o.under hb6 HO5.o.lt);clear hb6 y0 yl g0 g1 g2 g3 g4 gl HC;go_wp2_with fail;refine HPW.o.mono ?_;rintro e w7 ⟨v7,he,hI7,hb7⟩;subst he;have hOX:=HO6.o.under hb7 HO6.o.lt;have y0:w7.cell? ⟨X,0,none⟩=some (.int .i64 11):=hOX.cell 0;have yl:=hOX.lt;have HI7:=aH hI7;have HR7:=aH (HB1.o.trans ((HR6.o.trans (hb7.mono HR6.o.size)).mono HB1.o.size));clear hI7 hb7 HPW hOX;go_wp2;go_ret;rw [HE.o];exact ⟨_,rfl,by rw [HBE.o];exact HI7.o,HR7.o⟩
   ·
    have h11b:(op == 11)=false:=aN.2 h11;have h11d:decide (op=11)=false:=aF h11;by_cases h13:op=13
    ·
     subst h13;have HE:=aH (show RES=A2g gr x.mo (if n < nl then orL FR (T n) else FR) from by rw [HRS.o,if_neg (by decide),if_pos rfl];rfl);obtain ⟨y,hy⟩:∃ y,gr.ws[x.mo]?=some y:=⟨_,aG (HWA.o.mo x (aM HX.o))⟩;have HYR:=aH (HWA.o.ws y (aM hy));have hmo0:x.mo < nw:=(by rw [<- HLW.o];exact HWA.o.mo x (aM HX.o));have HRW:=aH (show ∀ M,(if n < nl then orL FR (T n) else FR)=M->RES=if 0<=y then bT M y else M from fun M hM=>by rw [HE.o,hM];unfold A2g;rw [hy]);obtain ⟨mo,hmo⟩:∃ z,x.mo=z:=⟨_,rfl⟩;obtain ⟨wb,woff,hwo,hwb,-,d0⟩:=(HG1.o.below HR5.o).2.2.1 x.mo y hy;have HD0:=aH d0;have HN5:=aH (HN1.o.below HR5.o);have HO5m:=aH HO5.o;rw [hmo] at HD0 HO5m hmo0;have hm1:decide ((mo:Int) < (nw:Int))=true:=aT (by omega);have hm2:decide (mo < nw)=true:=aT hmo0;clear d0;by_cases hnl:n < nl
     ·
      have hnl1:decide ((n:Int) < (nl:Int))=true:=aT (by omega);have hnl2:decide (n < nl)=true:=aT hnl;obtain ⟨tb,toff,tv,htn,htb,t0,hti⟩:=HN5.o n hnl;have hti2:=hti;obtain ⟨tq,tc,htv,htc,-⟩:=hti2;obtain ⟨m,hm⟩:∃ m,(T n).length=m:=⟨_,rfl⟩;have HM:=aH hm;have HTI:=aH hti;rw [htv] at t0 HTI;rw [hm] at t0 HTI htc;have HTC:=aH t0;have hm1000:(m:Int)<=1000:=(by rw [<- hm];exact (HT0.o n hnl).2);have HTR:=aH (HT0.o n hnl).1;have HR0:=aH (show (if n < nl then orL FR (T n) else FR)=orL FR ((T n).drop 0) from by rw [if_pos hnl];rfl);subst htn;clear hm htv hti t0;go_wp2_with fail
      go_loopw [9,11] (fun v9 v11 wr=>∃ (k:Nat) (M:List Int) (vv:Value),vv=v9/\v11=.int .i64 (k:Int)/\(k:Int)<=m/\aQ ((if n < nl then orL FR (T n) else FR)=orL M ((T n).drop k))/\aQ (aO wr B vv M)/\aQ (Rg nn M)/\aQ (Below w5.heap.size w5 wr)) (fun _ v11 _=>m - (intOf v11).toNat)
      case atStart=>exact ⟨0,FR,_,rfl,rfl,by omega,HR0,HI,HFR,aH (Below.refl _ _)⟩
      case round =>
       obtain ⟨k,M,v9,rfl,rfl,hk,HR,HIM,HLM,HB⟩:=hrel;have t0:=aC HTC.o HB.o;have tbl:=aL htb HB.o.size;by_cases hkm:(k:Int) < m
       ·
        have hk1:decide ((k:Int) < (m:Int))=true:=aT hkm;have hk2:decide (k < m)=true:=aT (by omega);have hw1:IntKind.i64.wrap ((k:Int) + 1)=(k:Int) + 1:=wI;obtain ⟨z,hz⟩:∃ z,(T n)[k]?=some z:=⟨_,aG (by have:=HM.o;omega)⟩;have HST:=aH (HR.o.trans (JM (a:=M) hz));have HZR:=aH (HTR.o z (aM hz));have hII:=HTI.o.below HB.o;obtain ⟨g,goff,hgo,hgl,c0⟩:∃ g goff,tq=some ⟨g,goff,none⟩/\g < wr.heap.size/\wr.cell? ⟨g,goff + k,none⟩=some (.int .i64 z):=(by obtain ⟨ao1,c1,e1,-,hf⟩:=hII;injection e1 with e1 e2 e3;obtain ⟨g,off,e,h1,-,h3⟩:=hf k (by have:=HM.o;omega);refine ⟨g,off,e1.trans e,h1,?_⟩;rw [h3,List.getD_eq_getElem?_getD,hz];rfl);subst hgo;have HPW:=aH (HPU.o B M z HLM.o v9 wr HIM.o (Nat.le_trans HS5.o HB.o.size));clear hz hII;go_wp2_with fail;refine HPW.o.mono ?_;rintro e w6 ⟨v6,he,hI6,hb6⟩;subst he;have HI6:=aH hI6;have HB6:=aH (aD HB.o hb6);have HL6:=aH (HLM.o.put HZR.o);clear hI6 hb6 hgl c0 HPW t0 tbl;go_wp2
        go_roundw
        case rel=>exact ⟨k + 1,_,_,rfl,by go_num,by omega,HST,HI6,HL6,HB6⟩
        case measure=>simp [intOf];omega
       ·
        have hk1:decide ((k:Int) < (m:Int))=false:=aF hkm;have hk2:decide (k < m)=false:=aF (by omega);have HRE:=aH (show (if n < nl then orL FR (T n) else FR)=M from by rw [HR.o,List.drop_of_length_le (by have:=HM.o;omega)];rfl);have HRM:=aH HRE.o;have HBM:=aH HB.o;clear HRE;obtain ⟨w6,hw6⟩:∃ z,z=wr:=⟨_,rfl⟩;subst hw6;have HR6:=aH (HR5.o.trans (HBM.o.mono HR5.o.size));have HO6:=aH (HO5m.o.under HBM.o HO5m.o.lt);have y8:w6.cell? ⟨X,8,none⟩=some (.int .i64 (mo:Int)):=HO6.o.cell 8;have yl:=HO6.o.lt;obtain ⟨g0,g1,g2,g3,g4,gl⟩:=HCG.o w6 HR6.o;rw [hwo] at g3;have dd:=aC HD0.o HBM.o;have dl:=World.block_lt_of_cell? w6 _ dd;have HRE:=aH (HRW.o M HRM.o);clear hmo hwo hwb hy;by_cases hy0:0<=y
        · have hy1:decide (0<=y)=true:=aT hy0;have HRF:=aH (show RES=bT M y from by rw [HRE.o,if_pos hy0]);have HPW:=aH (HPU.o B M y HLM.o v9 w6 HIM.o (Nat.le_trans HS5.o HBM.o.size));go_wp2_with fail;refine HPW.o.mono ?_;rintro e w7 ⟨v7,he,hI7,hb7⟩;subst he;have HI7:=aH hI7;have HR7:=aH (HB1.o.trans ((HR6.o.trans (hb7.mono HR6.o.size)).mono HB1.o.size));clear hI7 hb7;go_wp2;go_ret;rw [HRF.o];exact ⟨_,rfl,by rw [HBE.o];exact HI7.o,HR7.o⟩
        · have hy1:decide (0<=y)=false:=aF hy0;have HRF:=aH (show RES=M from by rw [HRE.o,if_neg hy0]);have HR7:=aH (HB1.o.trans (HR6.o.mono HB1.o.size));go_wp2;go_ret;rw [HRF.o];exact ⟨_,rfl,by rw [HBE.o];exact HIM.o,HR7.o⟩
     ·
      have hnl1:decide ((n:Int) < (nl:Int))=false:=aF (by omega);have hnl2:decide (n < nl)=false:=aF hnl;go_wp2_with fail
      go_loopw [9,11] (fun v9 v11 wr=>∃ vv:Value,vv=v9/\v11=.int .i64 0/\aQ (aO wr B vv FR)/\aQ (Below w5.heap.size w5 wr)) (fun _ _ _=>0)
      case atStart=>exact ⟨_,rfl,rfl,HI,aH (Below.refl _ _)⟩
      case round =>
       obtain ⟨v9,rfl,rfl,HIM,HB⟩:=hrel;obtain ⟨M,hM⟩:∃ z,FR=z:=⟨_,rfl⟩;have HRM:=aH (show (if n < nl then orL FR (T n) else FR)=M from by rw [if_neg hnl];exact hM);have HLM:=aH HFR.o;have HIM:=aH HIM.o;rw [hM] at HLM HIM;have HBM:=aH HB.o;clear hM;obtain ⟨w6,hw6⟩:∃ z,z=wr:=⟨_,rfl⟩;subst hw6;have HR6:=aH (HR5.o.trans (HBM.o.mono HR5.o.size));have HO6:=aH (HO5m.o.under HBM.o HO5m.o.lt);have y8:w6.cell? ⟨X,8,none⟩=some (.int .i64 (mo:Int)):=HO6.o.cell 8;have yl:=HO6.o.lt;obtain ⟨g0,g1,g2,g3,g4,gl⟩:=HCG.o w6 HR6.o;rw [hwo] at g3;have dd:=aC HD0.o HBM.o;have dl:=World.block_lt_of_cell? w6 _ dd;have HRE:=aH (HRW.o M HRM.o);clear hmo hwo hwb hy;by_cases hy0:0<=y
       · have hy1:decide (0<=y)=true:=aT hy0;have HRF:=aH (show RES=bT M y from by rw [HRE.o,if_pos hy0]);have HPW:=aH (HPU.o B M y HLM.o v9 w6 HIM.o (Nat.le_trans HS5.o HBM.o.size));go_wp2_with fail;refine HPW.o.mono ?_;rintro e w7 ⟨v7,he,hI7,hb7⟩;subst he;have HI7:=aH hI7;have HR7:=aH (HB1.o.trans ((HR6.o.trans (hb7.mono HR6.o.size)).mono HB1.o.size));clear hI7 hb7;go_wp2;go_ret;rw [HRF.o];exact ⟨_,rfl,by rw [HBE.o];exact HI7.o,HR7.o⟩
       · have hy1:decide (0<=y)=false:=aF hy0;have HRF:=aH (show RES=M from by rw [HRE.o,if_neg hy0]);have HR7:=aH (HB1.o.trans (HR6.o.mono HB1.o.size));go_wp2;go_ret;rw [HRF.o];exact ⟨_,rfl,by rw [HBE.o];exact HIM.o,HR7.o⟩
    · have h13b:(op == 13)=false:=aN.2 h13;have h13d:decide (op=13)=false:=aF h13;have HE:=aH (show RES=FR from by rw [HRS.o,if_neg h11,if_neg h13]);have HR7:=aH (HB1.o.trans (HR5.o.mono HB1.o.size));go_wp2;go_ret;rw [HE.o];exact ⟨_,rfl,by rw [HBE.o];exact HI.o,HR7.o⟩
def rqF (CL:Nx) (b:Int):Nat->(Nat->Bool)->List Int->Bool
 | 0,_,_=>false
 | _ + 1,_,[]=>false
 | f + 1,M,k :: W=>if k=b then true else if M k.toNat=true then rqF CL b f M W else rqF CL b f (dC M k.toNat) (W ++ CL k.toNat)
theorem B6U {CL:Nx} {b:Int} {M:Nat->Bool}:∀ f,rqF CL b f M []=false
 | 0=>rfl
 | _ + 1=>rfl
theorem Yv {CL:Nx} {N b:Nat} (hC:∀ n,n < N->∀ y ∈ CL n,0<=y/\y < (N:Int)):∀ (f:Nat) (M:Nat->Bool) (W:List Int),(∀ y ∈ W,0<=y/\y < (N:Int)/\Rea CL b y.toNat)->rqF CL (b:Int) f M W=true->Rea CL b b
 | 0,M,W,hW,h=>by cases h
 | f + 1,M,[],hW,h=>by cases h
 | f + 1,M,k :: W,hW,h=>by
  unfold rqF at h;have hk:=hW k List.mem_cons_self;split at h
  · next e=>have:=hk.2.2;rw [e,Int.toNat_natCast] at this;exact this
  split at h
  · exact Yv hC f M W (fun y hy=>hW y (List.mem_cons_of_mem _ hy)) h
  ·
   refine Yv hC f _ _ (fun y hy=>?_) h;rcases List.mem_append.1 hy with hy | hy
   · exact hW y (List.mem_cons_of_mem _ hy)
   · have h1:=hC k.toNat (by omega) y hy;exact ⟨h1.1,h1.2,hk.2.2.more (by rw [show ((y.toNat:Nat):Int)=y from by omega];exact hy)⟩
theorem LK {CL:Nx} {N b:Nat} (hC:∀ n,n < N->∀ y ∈ CL n,0<=y/\y < (N:Int)) (hl:∀ n,n < N->(CL n).length<=N):∀ (f:Nat) (M:Nat->Bool) (W:List Int),(∀ y ∈ W,0<=y/\y < (N:Int))->W.length + bF M N * N<=f →
  (∀ m,m=b\/M m=true->∀ k ∈ CL m,k ∈ W\/k ≠ (b:Int)/\M k.toNat=true)->rqF CL (b:Int) f M W=false->∃ M':Nat->Bool,∀ m,m=b\/M' m=true->∀ k ∈ CL m,k ≠ (b:Int)/\M' k.toNat=true
 | f,M,[],hW,hf,hI,h=>⟨M,fun m hm k hk=>by
   rcases hI m hm k hk with h | h
   · cases h
   · exact h⟩
 | 0,M,k :: W,hW,hf,hI,h=>by simp at hf
 | f + 1,M,k :: W,hW,hf,hI,h=>by
  unfold rqF at h;have hk:=hW k List.mem_cons_self;have hr:∀ y ∈ W,0<=y/\y < (N:Int):=fun y hy=>hW y (List.mem_cons_of_mem _ hy);have hlen:(k :: W).length=W.length + 1:=rfl;split at h
  · cases h
  next hne =>
  split at h
  ·
   next hm =>
   refine LK hC hl f M W hr (by omega) (fun m hm2 y hy=>?_) h;rcases hI m hm2 y hy with h | h
   ·
    rcases List.mem_cons.1 h with rfl | h
    · exact .inr ⟨hne,hm⟩
    · exact .inl h
   · exact .inr h
  ·
   next hm =>
   have hm:M k.toNat=false:=Bool.eq_false_iff.2 hm;have hkN:k.toNat < N:=(by omega);have h1:=He (N:=N) hkN hm;have h2:=Nat.mul_le_mul_right N h1;rw [Nat.add_mul,Nat.one_mul] at h2;have h3:=hl k.toNat hkN;refine LK hC hl f (dC M k.toNat) (W ++ CL k.toNat) (fun y hy=>?_) (by rw [List.length_append];omega) (fun m hm2 y hy=>?_) h
   ·
    rcases List.mem_append.1 hy with hy | hy
    · exact hr y hy
    · exact hC k.toNat hkN y hy
   ·
    have keep:∀ j,M j=true->dC M k.toNat j=true:=fun j hj=>(by unfold dC;split <;> simp [hj]);have hself:dC M k.toNat k.toNat=true:=(by unfold dC;rw [if_pos rfl]);by_cases e:m=k.toNat
    · exact .inl (List.mem_append.2 (.inr (by rw [<- e];exact hy)))
    ·
     have hm3:m=b\/M m=true:=hm2.imp id (fun h=>by unfold dC at h;rwa [if_neg e] at h);rcases hI m hm3 y hy with h | h
     ·
      rcases List.mem_cons.1 h with rfl | h
      · exact .inr ⟨hne,hself⟩
      · exact .inl (List.mem_append.2 (.inl h))
     · exact .inr ⟨h.1,keep _ h.2⟩
theorem B8n {CL:Nx} {N b f:Nat} (hC:∀ n,n < N->∀ y ∈ CL n,0<=y/\y < (N:Int)) (hl:∀ n,n < N->(CL n).length<=N) (hb:b < N) (hf:N + N * N<=f):rqF CL (b:Int) f (fun _=>false) (CL b)=Yk CL N b b:=by
 have hW:=hC b hb;have key:rqF CL (b:Int) f (fun _=>false) (CL b)=true ↔ Rea CL b b:=by
  constructor
  · exact Yv hC f _ _ (fun y hy=>⟨(hW y hy).1,(hW y hy).2,.one (by rw [show ((y.toNat:Nat):Int)=y from by have:=(hW y hy).1;omega];exact hy)⟩)
  ·
   intro hR
   cases hq:rqF CL (b:Int) f (fun _=>false) (CL b) with
   | true=>rfl
   | false =>
    obtain ⟨M',hM⟩:=LK hC hl f _ _ hW (by
     have h1:=hl b hb;have h2:=Nat.mul_le_mul_right N (iQ (fun _=>false) N)
     omega) (fun m hm k hk=>by
      rcases hm with rfl | hm
      · exact .inl hk
      · cases hm) hq
    have:∀ {c:Nat},Rea CL b c->(c:Int) ≠ (b:Int)/\M' c=true:=by
     intro c hR
     induction hR with
     | one h=>have:=hM b (.inl rfl) _ h;rwa [Int.toNat_natCast] at this
     | more _ h ih=>have:=hM _ (.inr ih.2) _ h;rwa [Int.toNat_natCast] at this
    exact absurd rfl (this hR).1
 cases h1:rqF CL (b:Int) f (fun _=>false) (CL b) <;> cases h2:Yk CL N b b
 · rfl
 · rw [(key.2 ((Vk hC hb).1 h2))] at h1;cases h1
 · rw [((Vk hC hb).2 (key.1 h1))] at h2;cases h2
 · rfl
theorem aO.tail {w:World} {C:Nat} {ao:Option Addr} {cap m:Nat} {y:Int} {L:List Int} (hm:L.length=m) (h:aO w C (.slice ao (m + 1) cap) (y :: L)):aO w C (.slice (if cap=1 then ao else ao.map (·.add 1)) m (cap - 1)) L:=by
 obtain ⟨bo,cb,e,hc,hf⟩:=h;injection e with e1 e2 e3;subst e1 e3;refine ⟨_,_,by rw [hm],by have:(y :: L).length=L.length + 1:=rfl;omega,fun j hj=>?_⟩;obtain ⟨g,off,e,h1,h2,h3⟩:=hf (j + 1) (by have:(y :: L).length=L.length + 1:=rfl;omega);have hcap:cap ≠ 1:=by have:(y :: L).length=L.length + 1:=rfl;omega
 rw [if_neg hcap,e];refine ⟨g,off + 1,rfl,h1,h2,?_⟩;rw [show off + 1 + j=off + (j + 1) from by omega,h3];rfl
theorem aO.src {w:World} {C:Nat} {v:Value} {L:List Int} (h:aO w C v L):Src Tryz.prog 1 25 v L.length (L.map (Value.int .i64)) w:=by obtain ⟨ao,cap,rfl,hc,hf⟩:=h;exact Src.ofInts hf
section
variable {P:Program} {ops:Array Oper} {Q:Exit->Act->World->Prop}
theorem NV {i':Nat} {o:Oper} {a:Act} {w w':World} {K:Act->World->Prop} {v u v':Value} (ei:ops[i']?=some o) (hg:Region.wanted o (yielded ops a.tmps)=true) (s x:Operand) (t tx:TypeId)
  (hop:o.op=Op.call { callee:=Callee.builtin Builtin.append,args:=#[s,x],argTypes:=#[t,tx] }) (hs:a.eval s=v) (hx:a.eval x=u) (hrun:(Builtin.append_ #[t,tx] o.type #[v,u]).run P w=.ok v' w') (hK:K (a.put o.dst v') w'):wpOp P ops Q i' K a w:=by
 unfold wpOp;rw [ei];simp only [];rw [if_pos hg];left;unfold Oper.wp;simp [execOp,hop,resolve,invoke,builtin,hs,hx,hrun,Result.andThen];exact hK
end
theorem KT (gr:Gj) (a:Gv) (hg:Good gr) (hw:WaG gr.ns gr.ws gr.ws.length) (T:Nx) (nl:Nat) (no:Option Addr) (nc:Nat) (hT:∀ k,k < nl->(∀ y ∈ T k,0<=y/\y < (gr.ns.length:Int))/\((T k).length:Int)<=1000) (w:World) (hG:dG w gr a) (hN:NxM w no nl T) :
  Calls Tryz.prog 16 #[grv gr a,.slice no nl nc] w fun e w'=>e=.returned (.int .i64 (Au (jE gr T nl) gr.ns.length))/\Below w.heap.size w w':=by
 have HB1:=gB w a gr;have HO1:=gO w a gr;have HG1:=aH (hG.below HB1.o);have HN1:=aH (hN.below HB1.o)
 have HCL:=aH (fun (k:Nat) (hk:k < gr.ns.length) W h1 h2=>show Calls Tryz.prog 34 #[grv gr a,.slice no nl nc,.int .i64 (k:Int)] W (fun e w'=>∃ v,e=.returned v/\aO w' W.heap.size v (jE gr T nl k)/\Below W.heap.size W w') from by
  have h:=KJ gr a hg hw (k:Int) T nl no nc hT W h1 h2;unfold Gn at h;rw [if_pos ⟨by omega,by omega⟩,Int.toNat_natCast] at h
  exact h)
 have HRG:=aH (fun k=>Lr hg hw (T:=T) (nl:=nl) (fun j hj=>(hT j hj).1) k);have hn160:=hg.len;have HEQ:=aH (fun (n:Nat) (hn:n < gr.ns.length)=>B8n (CL:=jE gr T nl) (N:=gr.ns.length) (b:=n) (f:=gr.ns.length + gr.ns.length * gr.ns.length) (fun k _=>(HRG.o k).2) (fun k _=>(HRG.o k).len) hn (Nat.le_refl _));obtain ⟨RES,hRES⟩:∃ z,Au (jE gr T nl) gr.ns.length=z:=⟨_,rfl⟩;have HR0:=aH (show RES=Tc (jE gr T nl) gr.ns.length gr.ns.length 0 from by rw [<- hRES];rfl);rw [hRES];unfold grv at HCL;unfold grv;obtain ⟨CL,hCL⟩:∃ z,jE gr T nl=z:=⟨_,rfl⟩;simp only [hCL] at HCL HRG HEQ HR0;obtain ⟨nn,nh,nms,nw,hnn,hnh,hnms,hnw⟩:=nG gr;simp only [hnn,hnh,hnms,hnw] at HO1 HB1 HCL HG1 HN1 HR0 HRG HEQ hn160;rw [hnn,hnh,hnms,hnw];obtain ⟨B,hB⟩:∃ B,w.heap.size=B:=⟨_,rfl⟩;have HBE:=aH hB;rw [hB] at HO1;clear hg hw hT hG hN hRES hCL hnn hnh hnms hnw;have hsq0:nn * nn<=160 * 160:=Nat.mul_le_mul (by omega) (by omega);obtain ⟨sq,hsq⟩:∃ z,nn * nn=z:=⟨_,rfl⟩;rw [hsq] at hsq0 HEQ;have HSQ:=aH hsq;clear hsq;go_enter Tryz.func16,Tryz.ntmps16;go_upto_region 1 with fail;generalize w.alloc (.cells #[.slice a.mo nms a.mc,.slice a.no nn a.nc,.slice a.ho nh a.hc,.slice a.wo nw a.wc,.int .i64 gr.st] 27)=w2 at *;try rw [hB]
 clear hB
 have HCG:=aH (show ∀ W,Below w2.heap.size w2 W->W.cell? ⟨B,0,none⟩=some (.slice a.mo nms a.mc)/\W.cell? ⟨B,1,none⟩=some (.slice a.no nn a.nc)/\W.cell? ⟨B,2,none⟩=some (.slice a.ho nh a.hc)/\W.cell? ⟨B,3,none⟩=some (.slice a.wo nw a.wc)/\W.cell? ⟨B,4,none⟩=some (.int .i64 gr.st)/\B < W.heap.size from fun W h=>by
  have q:=HO1.o.under h HO1.o.lt
  exact ⟨q.cell 0,q.cell 1,q.cell 2,q.cell 3,q.cell 4,q.lt⟩)
 obtain ⟨C,hC⟩:∃ C,w2.heap.size=C:=⟨_,rfl⟩;have HCE:=aH hC;clear hC;go_wp2_with fail
 go_loopw [5,6] (fun v5 v6 wr=>∃ (k:Nat) (vl:Value),vl=v5/\v6=.int .i64 (k:Int)/\(k:Int)<=nn/\aQ (LdW wr C CL vl k)/\aQ (Below w2.heap.size w2 wr)) (fun _ v6 _=>nn - (intOf v6).toNat)
 case atStart=>exact ⟨0,_,rfl,rfl,by omega,aH (LdW.nil _ _ _),aH (Below.refl _ _)⟩
 case round =>
  obtain ⟨k,vl,rfl,rfl,hk,HLk,HBk⟩:=hrel;obtain ⟨g0,g1,g2,g3,g4,gl⟩:=HCG.o wr HBk.o;by_cases hkn:(k:Int) < nn
  ·
   have hk1:decide ((k:Int) < (nn:Int))=true:=aT hkn;have hk2:decide (k < nn)=true:=aT (by omega);have hkk:k < nn:=(by omega);have hw1:IntKind.i64.wrap ((k:Int) + 1)=(k:Int) + 1:=wI;have HCC:=aH (HCL.o k hkk wr (HG1.o.below HBk.o) (HN1.o.below HBk.o));obtain ⟨V,S,hW,hS2,hS3⟩:=HLk.o;have HWk:=aH hW;have HS2:=aH hS2;have HS3:=aH hS3;obtain ⟨ao,cap,hvl,-⟩:=hW.form;have HVL:=aH hvl;clear hW hS2 hS3 hvl;go_wp2_with fail;refine HCC.o.mono ?_;rintro e w5 ⟨v5,he,hI5,hb5⟩;subst he;clear g0 g1 g2 g3 g4 gl HCC;obtain ⟨vo,vn,vc,hv5⟩:∃ ao n c,v5=.slice ao n c:=(by obtain ⟨x1,x2,x3,-⟩:=hI5;exact ⟨x1,_,x2,x3⟩);have hoff:Iq S v5:=fun g off n c e hn hs=>(by have:=(hI5.blk e hn).1;have:=(HS2.o g hs).2;omega);have HOF:=aH hoff;have hbx:Below w5.heap.size w5 (w5.alloc (.cells #[v5] 25)):=bA _;have HBX:=aH (hb5.trans (hbx.mono hb5.size));have HI6:=aH (hI5.below hbx);have HWX:=aH (HWk.o.below HBX.o);obtain ⟨i0,hi0,hz0,hz1q,hz2q⟩:=info_parts Es;have HNEW:=aH (bD w5 25 [v5]);have HCW:=aH (show C<=wr.heap.size from by have:=HBk.o.size;have:=HCE.o;omega);clear hoff hI5 hb5 hbx;subst hv5
   go_wp2_with (first
    | (at_builtin;refine aX _ rfl _ _ 32 rfl S 25 i0 _ 1 24 Tryz.underlying32 hi0 hz0 hz1q hz2q rfl (by decide) vl k ((List.range k).map V) rfl HWX.o ⟨w5.heap.size,0,none⟩ 1 1 [.slice vo vn vc] rfl rfl HNEW.o (by intro u hu;rw [List.mem_singleton.1 hu];rfl) (by unfold maxLen;omega) (by omega) ?_))
   intro v' w6 hw6 hb6;have hLm:LdW w6 C CL v' (k + 1):=LdW.more (V:=V) (S:=S) (Nat.le_trans HCW.o HBX.o.size) (fun g hg=>⟨(HS2.o g hg).1,aL (HS2.o g hg).2 HBX.o.size⟩) (fun j hj=>⟨(HS3.o j hj).1.below HBX.o,(HS3.o j hj).2⟩) (HI6.o.mono HCW.o) HOF.o (hw6.mono (fun j _ h=>h.elim .inl (fun h=>.inr (by simpa using h)))) hb6;have HL6:=aH hLm;have HB6:=aH ((HBk.o.trans (HBX.o.mono HBk.o.size)).trans (hb6.below (B:=w2.heap.size) (by have:=HBk.o.size;have:=HBX.o.size;omega) (fun j hs=>by have:=(HS2.o j hs).1;have:=HCE.o;omega)));clear hLm hw6 hb6 hi0 hz0 hz1q hz2q HBX HI6 HWX HNEW;go_wp2
   go_roundw
   case rel=>exact ⟨k + 1,_,rfl,by go_num,by omega,HL6,HB6⟩
   case measure=>simp [intOf];omega
  ·
   have hk1:decide ((k:Int) < (nn:Int))=false:=aF hkn;have hk2:decide (k < nn)=false:=aF (by omega);obtain rfl:k=nn:=(by omega);obtain ⟨lo,lc,hvl⟩:∃ lo lc,vl=.slice lo k lc:=(by obtain ⟨V,S,h1,-⟩:=HLk.o;obtain ⟨ao,cap,e,-⟩:=h1.form;exact ⟨ao,cap,e⟩);subst hvl
   have HCM:=aH (show NxM wr lo k CL from fun j hj=>by
    obtain ⟨b,off,v,e,h1,-,h2,h3⟩:=HLk.o.at_ j hj
    exact ⟨b,off,v,e,h1,h2,h3.mono (Nat.zero_le _)⟩)
   obtain ⟨wo,hwo⟩:∃ z,z=wr:=⟨_,rfl⟩;subst hwo;have HBT:=aH (HB1.o.trans (HBk.o.mono HB1.o.size));have hmk:∀ W:World,(Instr.makeSlice 39 (.int .i64 (k:Int)) (.int .i64 (k:Int))).run Tryz.prog W=.ok (.slice (some ⟨W.heap.size,0,none⟩) k k) (W.alloc (.cells (Array.replicate k (Value.bool false)) 4)):=fun W=>mY k (by omega) W;clear HLk;go_wp2_with fail;clear g0 g1 g2 g3 g4 gl
   go_loopw [7] (fun v7 wx=>∃ n:Nat,v7=.int .i64 (n:Int)/\(n:Int)<=k/\aQ (RES=Tc CL k (k - n) n)/\aQ (Below wo.heap.size wo wx)) (fun v7 _=>k - (intOf v7).toNat)
   case atStart=>exact ⟨0,rfl,by omega,HR0,aH (Below.refl _ _)⟩
   case round =>
    obtain ⟨n,rfl,hn,HR,HBx⟩:=hrel;obtain ⟨wx,hwx⟩:∃ z,z=wr:=⟨_,rfl⟩;subst hwx;obtain ⟨g0,g1,g2,g3,g4,gl⟩:=HCG.o wx (HBk.o.trans (HBx.o.mono HBk.o.size));by_cases hnk:(n:Int) < k
    ·
     have hn1:decide ((n:Int) < (k:Int))=true:=aT hnk;have hn2:decide (n < k)=true:=aT (by omega);have hnn:n < k:=(by omega);have hw1:IntKind.i64.wrap ((n:Int) + 1)=(n:Int) + 1:=wI
     have HST:=aH (show RES=if Yk CL k n n=true then (n:Int) else Tc CL k (k - (n + 1)) (n + 1) from by
      rw [HR.o,show k - n=(k - (n + 1)) + 1 by omega]
      rfl)
     obtain ⟨rb,hrb⟩:∃ z,Yk CL k n n=z:=⟨_,rfl⟩;have HQ0:=aH ((HEQ.o n hnn).trans hrb).symm;rw [hrb] at HST;clear hrb;have hbs:Below wx.heap.size wx (wx.alloc (.cells (Array.replicate k (Value.bool false)) 4)):=bA _;have HBS:=aH hbs;obtain ⟨Q,hQ⟩:∃ z,wx.heap.size=z:=⟨_,rfl⟩;have HQE:=aH hQ
     have HM0:=aH (show Own (wx.alloc (.cells (Array.replicate k (Value.bool false)) 4)) Q 4 (bZ (fun _=>false) k) from by
      have e:bZ (fun _=>false) k=List.replicate k (Value.bool false):=(by unfold bZ;rw [List.map_const',List.length_range]);rw [e,<- hQ,<- List.toArray_replicate]
      exact Own.fresh wx 4 _)
     go_upto_region 10 with fail;try rw [hQ]
     generalize wx.alloc (.cells (Array.replicate k (Value.bool false)) 4)=wy at *;clear hQ hbs g0 g1 g2 g3 g4 gl;obtain ⟨cb,coff,cv,hlo,hcb,hcc,hci⟩:=HCM.o.below (HBx.o.trans (HBS.o.mono HBx.o.size)) n hnn;have HCI:=aH hci
     have HCF:=aH (show Iq (fun j=>j=Q) cv from by
      obtain ⟨cb2,coff2,cv2,hlo2,hcb2,hcc2,hci2⟩:=HCM.o.below HBx.o n hnn;rw [hlo] at hlo2;injection hlo2 with e1;injection e1 with e1 e2;subst e1 e2;have e3:=aC hcc2 HBS.o;rw [hcc] at e3;injection e3 with e3;subst e3;intro g off n c e hn e2;have e2:g=Q:=e2;have:=(hci2.blk e hn).2;have:=HQE.o
      omega)
     subst hlo;clear hci;go_wp2_with fail;clear hcb hcc
     go_loopg [9] (k + sq) (fun f v9 wr=>∃ (M:Nat->Bool) (W:List Int) (vv:Value),vv=v9/\aQ (rb=rqF CL (n:Int) f M W)/\aQ (W.length + bF M k * k<=f)/\aQ (W.length + bF M k * k<=k + sq)/\aQ (∀ y ∈ W,0<=y/\y < (k:Int))/\aQ (Own wr Q 4 (bZ M k))/\aQ (aO wr 0 vv W)/\aQ (Iq (fun j=>j=Q) vv)/\aQ (Below wx.heap.size wx wr))
     case atStart =>
      have h1:=(HRG.o n).len;have h2:=Nat.mul_le_mul_right k (iQ (fun _=>false) k);have h3:=HSQ.o;exact ⟨fun _=>false,CL n,_,rfl,HQ0,aH (by omega),aH (by omega),aH (HRG.o n).2,HM0,HCI,HCF,HBS⟩
     case round =>
      obtain ⟨M,W,vv,rfl,HR9,HF,HFN,HY,HM,HI,HOF,HB⟩:=hrel;obtain ⟨wz,hwz⟩:∃ z,z=wr:=⟨_,rfl⟩;subst hwz;have HBZ:=aH (HBx.o.trans (HB.o.mono HBx.o.size))
      cases W with
      | nil =>
       have HE:=aH (show rb=false from by rw [HR9.o,B6U]);obtain ⟨ao,cap,rfl,-⟩:=HI.o;have HE2:=aH (show RES=Tc CL k (k - (n + 1)) (n + 1) from by rw [HST.o,HE.o,if_neg (by decide)]);simp only [List.length_nil];go_wp2
       go_roundw
       case rel=>exact ⟨n + 1,by go_num,by omega,HE2,HBZ⟩
       case measure=>simp [intOf];omega
      | cons y W =>
       obtain ⟨f,rfl⟩:∃ f,gk=f + 1:=⟨gk - 1,by have:W.length + 1 + bF M k * k<=gk:=HF.o;omega⟩;obtain ⟨m,hm⟩:∃ m,W.length=m:=⟨_,rfl⟩;have HMM:=aH hm;have HF1:=aH (show m + 1 + bF M k * k<=f + 1 from by rw [<- hm];exact HF.o);have HF2:=aH (show m + 1 + bF M k * k<=k + sq from by rw [<- hm];exact HFN.o);have hyr:=HY.o y List.mem_cons_self;obtain ⟨z,rfl⟩:∃ z:Nat,y=(z:Int):=⟨y.toNat,by omega⟩;have hzk:z < k:=(by omega);have HYW:=aH (show ∀ y ∈ W,0<=y/\y < (k:Int) from fun y hy=>HY.o y (List.mem_cons_of_mem _ hy));obtain ⟨ao,cap,e9,hcap,hcell⟩:=HI.o;have e9:vv=.slice ao (m + 1) cap:=(by rw [e9,<- hm];rfl);subst e9;have hcap:m + 1<=cap:=(by rw [<- hm];exact hcap);obtain ⟨g,off,hao,hgl,-,hc0⟩:=hcell 0 (Nat.succ_pos _);have hc0:wz.cell? ⟨g,off,none⟩=some (.int .i64 (z:Int)):=hc0;subst hao;have HTL:=aH (aO.tail hm HI.o)
       have HTO:=aH (show Iq (fun j=>j=Q) (.slice (if cap=1 then (some ⟨g,off,none⟩:Option Addr) else (some (⟨g,off,none⟩:Addr)).map (·.add 1)) m (cap - 1)) from by
        intro g2 off2 n2 c2 e hn2 e2;injection e with e1 e3 e4;refine HOF.o g off (m + 1) cap rfl (by omega) ?_;have e2:g2=Q:=e2;show g=Q;split at e1
        · simp only [Option.some.injEq,Addr.mk.injEq] at e1;omega
        · simp only [Option.map_some,Addr.add_lit,Option.some.injEq,Addr.mk.injEq] at e1;omega)
       have hm1:decide ((0:Int) < ((m + 1:Nat):Int))=true:=aT (by omega);have hm2:decide (0 < m + 1)=true:=aT (by omega);have hm3:1<=m + 1:=(by omega);have hm4:1<=cap:=(by omega);have hm5:decide ((0:Int) < (m:Int) + 1)=true:=aT (by omega);have hm6:(1:Int)<=(m:Int) + 1:=(by omega);have hm7:(1:Int)<=(cap:Int):=(by omega);have hm8:(m:Int) + 1<=(cap:Int):=(by omega);clear hcell hm hyr;go_upto_region 13 with fail
       go_cut [9] (fun s9 wq=>∃ vT:Value,vT=s9/\aQ (aO wz 0 vT W)/\aQ (Iq (fun j=>j=Q) vT)/\wz=wq)
       case first =>
        by_cases hc1:cap=1
        ·
         subst hc1;have HTL1:=aH (show aO wz 0 (.slice (some (⟨g,off,none⟩:Addr)) W.length 0) W from by have h:=HTL.o;rw [if_pos rfl] at h;exact h);have HTO1:=aH (show Iq (fun j=>j=Q) (.slice (some (⟨g,off,none⟩:Addr)) W.length 0) from by have h:=HTO.o;rw [if_pos rfl] at h;exact h);have hW0:W.length=0:=(by omega);rw [hW0] at HTL1 HTO1;go_wp2_with fail
         go_meet
         exact ⟨_,rfl,HTL1,HTO1,rfl⟩
        ·
         have HTL1:=aH (show aO wz 0 (.slice (some (⟨g,off + 1,none⟩:Addr)) W.length (cap - 1)) W from by have h:=HTL.o;rw [if_neg hc1] at h;exact h);have HTO1:=aH (show Iq (fun j=>j=Q) (.slice (some (⟨g,off + 1,none⟩:Addr)) W.length (cap - 1)) from by have h:=HTO.o;rw [if_neg hc1] at h;exact h);go_wp2_with fail
         go_meet
         exact ⟨_,rfl,HTL1,HTO1,rfl⟩
       case rest =>
       clear HTL HTO;obtain ⟨vT,hvT9,HTL,HTO,hwq⟩:=hcut;subst hwq;subst hvT9;by_cases hzn:z=n
       ·
        have HE:=aH (show RES=(n:Int) from by
         have h1:rb=true:=by rw [HR9.o];show (if (z:Int)=(n:Int) then true else _)=true;rw [if_pos (by omega)]
         rw [HST.o,h1,if_pos rfl])
        have hz1:((z:Int) == (n:Int))=true:=beq_iff_eq.2 (by omega);have hz2:decide ((z:Int)=(n:Int))=true:=aT (by omega);have hz3:decide (z=n)=true:=aT hzn;have hz4:(z == n)=true:=beq_iff_eq.2 hzn;go_wp2;go_ret;rw [HE.o];exact ⟨rfl,HBT.o.trans (HBZ.o.mono HBT.o.size)⟩
       ·
        have hz1:((z:Int) == (n:Int))=false:=aN.2 (by omega);have hz2:decide ((z:Int)=(n:Int))=false:=aF (by omega);have hz3:decide (z=n)=false:=aF hzn;have hz4:(z == n)=false:=aN.2 hzn;have hk1:decide ((z:Int) < (k:Int))=true:=aT (by omega);have hk2:decide (z < k)=true:=aT hzk
        have HRN:=aH (show rb=if M z=true then rqF CL (n:Int) f M W else rqF CL (n:Int) f (dC M z) (W ++ CL z) from by
         rw [HR9.o];show (if (z:Int)=(n:Int) then true else _)=_
         rw [if_neg (by omega),Int.toNat_natCast])
        have m0:wz.cell? ⟨Q,z,none⟩=some (.bool (M z)):=(HM.o.cell z).trans (bH M k z hzk);have ml:=HM.o.lt;obtain ⟨mb,hmb⟩:∃ t,M z=t:=⟨_,rfl⟩;have HMB:=aH hmb;rw [hmb] at m0;clear hmb
        cases mb with
        | true =>
         have HSN:=aH (show rb=rqF CL (n:Int) f M W from by rw [HRN.o,if_pos HMB.o]);go_wp2
         go_roundg f
         case measure=>omega
         case rel=>exact ⟨M,W,_,rfl,HSN,aH (by have:=HF1.o;have:=HMM.o;omega),aH (by have:=HF2.o;have:=HMM.o;omega),HYW,HM,HTL,HTO,HB⟩
        | false =>
         have HSN:=aH (show rb=rqF CL (n:Int) f (dC M z) (W ++ CL z) from by rw [HRN.o,if_neg (by rw [HMB.o];decide)]);have f0:wz.frozen? ⟨Q,z,none⟩=false:=HM.o.thaw z;have hbt:But (fun j=>j=Q) wz (wz.setCell ⟨Q,z,none⟩ (.bool true)):=But.put wz Q z _;have HM5:=aH (show Own (wz.setCell ⟨Q,z,none⟩ (.bool true)) Q 4 (bZ (dC M z) k) from by rw [<- qX M k z hzk];exact HM.o.put z (.bool true));have HB5:=aH (HB.o.trans (hbt.below (B:=wx.heap.size) HB.o.size (fun j e=>by have:=HQE.o;have e:j=Q:=e;omega)));have HT5:=aH (HTL.o.off hbt HTO.o);have HLK:=aH (show (bF (dC M z) k + 1) * k<=bF M k * k from Nat.mul_le_mul_right k (He hzk HMB.o));have HLL:=aH (show (CL z).length<=k from (HRG.o z).len);have hmsz:W.length<=k + sq:=(by have:=HF2.o;omega);go_upto_region 18 with fail;clear m0 ml f0 hbt hc0 hgl;generalize wz.setCell ⟨Q,z,none⟩ (.bool true)=w9 at *;obtain ⟨kb,koff,kv,hko,hkb,hkc,hki⟩:=HCM.o.below (HBx.o.trans (HB5.o.mono HBx.o.size)) z hzk;injection hko with hko;injection hko with e1 e2;subst e1 e2;have HKI:=aH hki;obtain ⟨kvo,kvn,kvc,hkv⟩:∃ o n c,kv=.slice o n c:=(by obtain ⟨x1,x2,x3,-⟩:=hki;exact ⟨x1,_,x2,x3⟩);subst hkv;clear hki HTL HTO;obtain ⟨i0,hi0,hz0,hz1q,hz2q⟩:=info_parts gL;have IP:=aH (And.intro hi0 (And.intro hz0 (And.intro hz1q hz2q)));clear hi0 hz0 hz1q hz2q;refine bX (fun Wx=>Below w9.heap.size w9 Wx) 8 (by kernel_rfl) ?_;have HSS:=aH (show Below w9.heap.size w9 (World.drew w9) from (Below.refl _ _).drew);have HKC:=aH (show ∀ W,Below w9.heap.size w9 W->W.cell? ⟨cb,coff + z,none⟩=some (.slice kvo kvn kvc)/\cb < W.heap.size from fun W h=>⟨aC hkc h,aL hkb h.size⟩);clear hkc hkb;refine tC 1 rfl HSS.o ?_;go_simp;refine tC 3 rfl HSS.o ?_;go_simp;refine tC 4 rfl HSS.o ?_;go_simp;refine tC 5 rfl HSS.o ?_;go_simp;refine aI.takeD 6 [7,8] rfl (v:=?_) (Or.inl ⟨by rfl,?_⟩) HSS.o ?_;rotate_left;· intro W hW;obtain ⟨hkc,hkb⟩:=HKC.o W hW;go_simp;try with_reducible rfl
         go_simp;refine aI.one (i:=0) (by kernel_rfl) (aY (v:=.slice (some ⟨(World.drew w9).heap.size,0,none⟩) 0 0) (w':=(World.drew w9).alloc (.cells #[] 3)) rfl (by kernel_rfl) (by go_simp;try rfl) ?_);have HSA:=aH (show Below w9.heap.size w9 ((World.drew w9).alloc (.cells #[] 3)) from HSS.o.alloc HSS.o.size _);have HHZ:=aH (heap_alloc_new (World.drew w9) (.cells #[] 3 (0,0)));refine ⟨.inr (.inr HSA.o),?_⟩;obtain ⟨v1,x1,hr1,hw1q,hb1⟩:=kR ((World.drew w9).alloc (.cells #[] 3)) 25 25 25 w9.heap.size HSA.o.size 3 i0 _ 1 8 Tryz.underlying25 IP.o.1 IP.o.2.1 IP.o.2.2.1 IP.o.2.2.2 rfl (by decide) (World.drew w9).heap.size HSS.o.size (heap_alloc_new _ _) vT W.length (W.map (Value.int .i64)) ((HT5.o.below HSA.o).src) (by have:=HMM.o;unfold maxLen;omega) (by have:=HMM.o;omega);go_simp;refine aI.one (i:=2) (by kernel_rfl) (NV rfl (by kernel_rfl) (.tmp 60) (.tmp 61) 25 25 rfl (by go_simp;try rfl) (by go_simp;try rfl) hr1 ?_);have HS1:=aH (aD HSA.o hb1);refine ⟨.inr (.inr HS1.o),?_⟩;have HW1:=aH hw1q;clear hr1 hw1q hb1;go_simp;refine aI.one (i:=7) (by kernel_rfl) ?_;refine kK rfl (by kernel_rfl) (.tmp 62) (.tmp 66) 25 25 rfl (fun g=>w9.heap.size<=g) 3 i0 _ 1 8 Tryz.underlying25 IP.o.1 IP.o.2.1 IP.o.2.2.1 IP.o.2.2.2 rfl (by decide) v1 W.length _ (by go_simp;try rfl) HW1.o (.slice kvo kvn kvc) (CL z).length _ (by go_simp;try rfl) ((HKI.o.below HS1.o).src) (by have:=HMM.o;have:=HLL.o;unfold maxLen;omega) (by have:=HMM.o;have:=HLL.o;omega) ?_;intro v2 x2 hw2q hb2;have HS2:=aH (HS1.o.trans (hb2.below HS1.o.size (fun g h=>h)));refine ⟨.inr (.inr HS2.o),?_⟩;have HW2:=aH (hw2q.mono (T:=fun g=>w9.heap.size<=g) (fun g _ hg=>by rcases hg with hg | hg;exact hg;exact Nat.le_trans HS1.o.size hg));clear hw2q hb2;go_simp;refine aI.one (i:=8) (by kernel_rfl) (aY (v:=v2) (w':=x2) rfl (by kernel_rfl) (by go_simp;try rfl) ?_);refine ⟨.inl rfl,?_⟩;go_simp;refine aI.done (by kernel_rfl) ?_ _;have HI9:=aH (show aO x2 w9.heap.size v2 (W ++ CL z) from Win.ints (n:=W.length + (CL z).length) (by rw [List.length_append]) (by rw [List.map_append];exact HW2.o));have HO9:=aH (show Iq (fun j=>j=Q) v2 from fun g off n c e hn e2=>by have e2:g=Q:=e2;have:=(HI9.o.blk e hn).1;have:=HM5.o.lt;omega);have HM9:=aH (HM5.o.under HS2.o HM5.o.lt);have HB9:=aH (HB5.o.trans (HS2.o.mono HB5.o.size));have HF9:=aH (show (W ++ CL z).length + bF (dC M z) k * k<=f from by have h1:=HLK.o;rw [Nat.add_mul,Nat.one_mul] at h1;have:=HF1.o;have:=HLL.o;have:=HMM.o;rw [List.length_append];omega);have HF8:=aH (show (W ++ CL z).length + bF (dC M z) k * k<=k + sq from by have h1:=HLK.o;rw [Nat.add_mul,Nat.one_mul] at h1;have:=HF2.o;have:=HLL.o;have:=HMM.o;rw [List.length_append];omega)
         have HY9:=aH (show ∀ y ∈ W ++ CL z,0<=y/\y < (k:Int) from fun y hy=>by
          rcases List.mem_append.1 hy with hy | hy
          · exact HYW.o y hy
          · exact (HRG.o z).2 y hy)
         go_simp;try go_wp2
         go_roundg f
         case measure=>omega
         case rel=>exact ⟨dC M z,W ++ CL z,_,rfl,HSN,HF9,HF8,HY9,HM9,aH (HI9.o.mono (Nat.zero_le _)),HO9,HB9⟩
    · have hn1:decide ((n:Int) < (k:Int))=false:=aF hnk;have hn2:decide (n < k)=false:=aF (by omega);have HE:=aH (show RES=-1 from by rw [HR.o,show k - n=0 by omega];rfl);go_wp2;go_ret;rw [HE.o];exact ⟨rfl,HBT.o.trans (HBx.o.mono HBT.o.size)⟩
end Go.Proofs.YthddifjhoniacaaGreat
