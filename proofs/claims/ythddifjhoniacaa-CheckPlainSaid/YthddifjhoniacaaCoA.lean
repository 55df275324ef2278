import Derived.Test.YthddifjhoniacaaCl
namespace Go.Proofs.Ythddifjhoniacaa
set_option linter.unusedVariables false
open Go.RowKit Go.Sort
inductive Rea (C:Nx):Nat->Nat->Prop
 | one {i j:Nat}:(j:Int) ∈ C i->Rea C i j
 | more {i j k:Nat}:Rea C i j->(k:Int) ∈ C j->Rea C i k
theorem Rea.head {C:Nx} {i j k:Nat} (h:(j:Int) ∈ C i) (hr:Rea C j k):Rea C i k:=by
 induction hr with
 | one h2=>exact (Rea.one h).more h2
 | more _ h2 ih=>exact ih.more h2
theorem KI {to1:Int}:∀ (L:List Int) (s:Rcs),rcK to1 L s=none->to1 ∈ L
 | [],s,h=>by cases h
 | k :: r,s,h=>by
  unfold rcK at h;split at h
  · next e=>exact e ▸ List.mem_cons_self
  split at h
  · exact List.mem_cons_of_mem _ (KI r _ h)
  · exact List.mem_cons_of_mem _ (KI r _ h)
theorem Vj {to1:Int} {N:Nat}:∀ (L:List Int) (M:Nat->Bool) (W:List Int) (s':Rcs),(∀ y ∈ L,0<=y/\y < (N:Int))->rcK to1 L (M,W)=some s' →
  (∀ m,M m=true->s'.1 m=true)/\(∀ y ∈ W,y ∈ s'.2)/\(∀ y ∈ s'.2,y ∈ W\/y ∈ L)/\(∀ k ∈ L,k ≠ to1/\s'.1 k.toNat=true)/\(∀ m,s'.1 m=true->M m=true\/(m:Int) ∈ s'.2)/\bF s'.1 N + s'.2.length<=bF M N + W.length
 | [],M,W,s',hL,h=>by have h:some (M,W)=some s':=h;injection h with h;subst h;exact ⟨fun _ h=>h,fun _ h=>h,fun _ h=>.inl h,(fun k hk=>by cases hk),fun _ h=>.inl h,Nat.le_refl _⟩
 | k :: r,M,W,s',hL,h=>by
  unfold rcK at h;have hk:=hL k List.mem_cons_self;have hr:∀ y ∈ r,0<=y/\y < (N:Int):=fun y hy=>hL y (List.mem_cons_of_mem _ hy);split at h
  · cases h
  next hne =>
  split at h
  ·
   next hm =>
   obtain ⟨h1,h2,h3,h4,h5,h6⟩:=Vj r M W s' hr h;refine ⟨h1,h2,fun y hy=>(h3 y hy).imp id (List.mem_cons_of_mem _),fun y hy=>?_,h5,h6⟩;rcases List.mem_cons.1 hy with rfl | hy
   · exact ⟨hne,h1 _ hm⟩
   · exact h4 y hy
  ·
   next hm =>
   have hm:M k.toNat=false:=Bool.eq_false_iff.2 hm;have e:((k.toNat:Nat):Int)=k:=(by omega);obtain ⟨h1,h2,h3,h4,h5,h6⟩:=Vj r (dC M k.toNat) (W ++ [k]) s' hr h;have hs:∀ m,M m=true->dC M k.toNat m=true:=fun m hm=>(by unfold dC;split <;> simp [hm]);refine ⟨fun m hm=>h1 m (hs m hm),fun y hy=>h2 y (List.mem_append.2 (.inl hy)),fun y hy=>?_,fun y hy=>?_,fun m hm2=>?_,?_⟩
   ·
    rcases h3 y hy with h | h
    ·
     rcases List.mem_append.1 h with h | h
     · exact .inl h
     · exact .inr (List.mem_singleton.1 h ▸ List.mem_cons_self)
    · exact .inr (List.mem_cons_of_mem _ h)
   ·
    rcases List.mem_cons.1 hy with rfl | hy
    · exact ⟨hne,h1 _ (by unfold dC;rw [if_pos rfl])⟩
    · exact h4 y hy
   ·
    rcases h5 m hm2 with h | h
    ·
     unfold dC at h;split at h
     · next e2=>exact .inr (h2 _ (List.mem_append.2 (.inr (List.mem_singleton.2 (by rw [e2,e])))))
     · exact .inl h
    · exact .inr h
   · have:=He (N:=N) (show k.toNat < N from by omega) hm;rw [List.length_append] at h6;have:[k].length=1:=rfl;omega
theorem SC {CL:Nx} {N b:Nat} (hC:∀ n,n < N->∀ y ∈ CL n,0<=y/\y < (N:Int)):∀ (f:Nat) (M:Nat->Bool) (W:List Int),(∀ y ∈ W,0<=y/\y < (N:Int))->rcF CL (b:Int) f (M,W)=true->∃ y:Nat,(y:Int) ∈ W/\Rea CL y b
 | 0,M,W,hW,h=>by cases h
 | f + 1,M,W,hW,h=>by
  unfold rcF at h;by_cases hn:W=[]
  · rw [if_pos hn] at h;cases h
  ·
   rw [if_neg hn] at h;obtain ⟨L0,z,e,e1,e2⟩:=Zg W hn;have hz:=hW z (e ▸ List.mem_append.2 (.inr (List.mem_singleton.2 rfl)));have hzm:((z.toNat:Nat):Int) ∈ W:=(by rw [show ((z.toNat:Nat):Int)=z from by omega,e];simp);simp only [e1,e2] at h;have hCz:=hC z.toNat (by omega)
   cases hk:rcK (b:Int) (CL z.toNat) (M,L0) with
   | none=>exact ⟨z.toNat,hzm,.one (KI _ _ hk)⟩
   | some s' =>
    rw [hk] at h;obtain ⟨h1,h2,h3,h4,h5,h6⟩:=Vj (N:=N) _ _ _ _ hCz hk;have hr:∀ y ∈ s'.2,0<=y/\y < (N:Int):=fun y hy=>by
     rcases h3 y hy with h | h
     · exact hW y (e ▸ List.mem_append.2 (.inl h))
     · exact hCz y h
    obtain ⟨y,hy,hR⟩:=SC hC f s'.1 s'.2 hr h;rcases h3 _ hy with h | h
    · exact ⟨y,e ▸ List.mem_append.2 (.inl h),hR⟩
    · exact ⟨z.toNat,hzm,.head h hR⟩
theorem A1Z {CL:Nx} {N a:Nat} {to1:Int} (hC:∀ n,n < N->∀ y ∈ CL n,0<=y/\y < (N:Int)):∀ (f:Nat) (M:Nat->Bool) (W:List Int),(∀ y ∈ W,0<=y/\y < (N:Int))->bF M N + W.length<=f →
  (∀ m,m=a\/M m=true->(m:Int) ∈ W\/∀ k ∈ CL m,k ≠ to1/\M k.toNat=true)->rcF CL to1 f (M,W)=false->∃ M':Nat->Bool,∀ m,m=a\/M' m=true->∀ k ∈ CL m,k ≠ to1/\M' k.toNat=true
 | 0,M,W,hW,hf,hI,h=>⟨M,fun m hm=>by
   rcases hI m hm with h | h
   · have:W=[]:=List.eq_nil_of_length_eq_zero (by omega);rw [this] at h;cases h
   · exact h⟩
 | f + 1,M,W,hW,hf,hI,h=>by
  by_cases hn:W=[]
  ·
   exact ⟨M,fun m hm=>by
    rcases hI m hm with h | h
    · rw [hn] at h;cases h
    · exact h⟩
  ·
   unfold rcF at h;rw [if_neg hn] at h;obtain ⟨L0,z,e,e1,e2⟩:=Zg W hn;have hz:=hW z (e ▸ List.mem_append.2 (.inr (List.mem_singleton.2 rfl)));simp only [e1,e2] at h;have hCz:=hC z.toNat (by omega)
   cases hk:rcK to1 (CL z.toNat) (M,L0) with
   | none=>rw [hk] at h;cases h
   | some s' =>
    rw [hk] at h;obtain ⟨h1,h2,h3,h4,h5,h6⟩:=Vj (N:=N) _ _ _ _ hCz hk;have hr:∀ y ∈ s'.2,0<=y/\y < (N:Int):=fun y hy=>by
     rcases h3 y hy with h | h
     · exact hW y (e ▸ List.mem_append.2 (.inl h))
     · exact hCz y h
    refine A1Z hC f s'.1 s'.2 hr ?_ (fun m hm=>?_) h
    · rw [e,List.length_append] at hf;have:[z].length=1:=rfl;omega
    ·
     have hold:(m:Int) ∈ W\/(∀ k ∈ CL m,k ≠ to1/\M k.toNat=true)\/(m:Int) ∈ s'.2:=by
      rcases hm with hm | hm
      ·
       rcases hI m (.inl hm) with h | h
       · exact .inl h
       · exact .inr (.inl h)
      ·
       rcases h5 m hm with h | h
       ·
        rcases hI m (.inr h) with h | h
        · exact .inl h
        · exact .inr (.inl h)
       · exact .inr (.inr h)
     rcases hold with h | h | h
     ·
      rw [e] at h;rcases List.mem_append.1 h with h | h
      · exact .inl (h2 _ h)
      · have h:=List.mem_singleton.1 h;refine .inr (fun k hk=>?_);have em:m=z.toNat:=(by omega);rw [em] at hk;exact h4 k hk
     · exact .inr (fun k hk=>⟨(h k hk).1,h1 _ (h k hk).2⟩)
     · exact .inl h
theorem Vk {CL:Nx} {N a b:Nat} (hC:∀ n,n < N->∀ y ∈ CL n,0<=y/\y < (N:Int)) (ha:a < N):Yk CL N a b=true ↔ Rea CL a b:=by
 have hW:∀ y ∈ [(a:Int)],0<=y/\y < (N:Int):=fun y hy=>by rw [List.mem_singleton.1 hy];omega
 constructor
 ·
  intro h;obtain ⟨y,hy,hR⟩:=SC hC (N + 1) _ _ hW h;have:y=a:=by have:=List.mem_singleton.1 hy;omega
  exact this ▸ hR
 ·
  intro hR
  cases hb:Yk CL N a b with
  | true=>rfl
  | false =>
   obtain ⟨M',hM⟩:=A1Z (a:=a) hC (N + 1) _ _ hW (by have:=iQ (fun _=>false) N;have:[(a:Int)].length=1:=rfl;omega) (fun m hm=>.inl (by
    rcases hm with rfl | hm
    · exact List.mem_singleton.2 rfl
    · cases hm)) hb
   have:∀ {c:Nat},Rea CL a c->(c:Int) ≠ (b:Int)/\M' c=true:=by
    intro c hR
    induction hR with
    | one h=>have:=hM a (.inl rfl) _ h;rwa [Int.toNat_natCast] at this
    | more _ h ih=>have:=hM _ (.inr ih.2) _ h;rwa [Int.toNat_natCast] at this
   exact absurd rfl (this hR).1
end Go.Proofs.Ythddifjhoniacaa
