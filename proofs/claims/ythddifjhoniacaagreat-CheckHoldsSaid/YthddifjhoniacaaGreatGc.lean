import Derived.Test.YthddifjhoniacaaGreatIa
namespace Go.Proofs.YthddifjhoniacaaGreat
set_option linter.unusedVariables false
open Go.RowKit Go.Sort
def xQ:List Md->Nat
 | []=>0
 | m :: r=>m.ru.length + xQ r
theorem GJ:∀ (ML:List Md) (s m:Nat) (md:Md),ML[m]?=some md->(kU ML s).getD m 0 + md.ru.length<=s + xQ ML
 | [],s,m,md,h=>by simp at h
 | x :: r,s,0,md,h=>by
  have h:x=md:=by simpa using h
  subst h;show s + x.ru.length<=s + (x.ru.length + xQ r);omega
 | x :: r,s,m + 1,md,h=>by have:=GJ r (s + x.ru.length) m md (by simpa using h);show (kU r (s + x.ru.length)).getD m 0 + md.ru.length<=s + (x.ru.length + xQ r);omega
theorem A4s {ML:List Md} {mod:Nat} {e:Ex} {tt:Int} (h:toO ML (kU ML 0) mod e=some tt) (h11:e.op=11):∃ t:Nat,tt=(t:Int)/\t < xQ ML:=by
 unfold toO at h;rw [if_pos h11] at h
 cases hr:uD ML (mod:Int) e.text with
 | mk m q =>
  cases q with
  | mk r b =>
   rw [hr] at h
   cases b with
   | false=>cases h
   | true =>
    obtain ⟨mm,md,rfl,hmd,-,h0,hlt⟩:=DJ hr;have e1:(((kU ML 0).getD (mm:Int).toNat 0:Nat):Int) + r=tt:=(by injection h);have e2:=GJ ML 0 mm md hmd;rw [Int.toNat_natCast] at e1;exact ⟨(kU ML 0).getD mm 0 + r.toNat,by omega,by omega⟩
structure Gd (H:Nat) (N:List Nj):Prop where
 len:N.length<=160
 kl:∀ x ∈ N,x.ks.length<=160
 kid:∀ x ∈ N,∀ k ∈ x.ks,k < N.length
 ref:∀ x ∈ N,x.op=11->∃ t:Nat,x.tg=(t:Int)/\t < H
theorem Gd.push {H:Nat} {N:List Nj} (h:Gd H N) (hN:N.length < 160) (x:Nj) (hk:x.ks=[]) (hr:x.op=11->∃ t:Nat,x.tg=(t:Int)/\t < H):Gd H (N ++ [x]):=by
 refine ⟨by rw [List.length_append,List.length_singleton];omega,fun y hy=>?_,fun y hy k hky=>?_,fun y hy h11=>?_⟩
 ·
  rcases List.mem_append.1 hy with hy | hy
  · exact h.kl y hy
  · rw [List.mem_singleton.1 hy,hk];simp
 ·
  rw [List.length_append,List.length_singleton];rcases List.mem_append.1 hy with hy | hy
  · have:=h.kid y hy k hky;omega
  · rw [List.mem_singleton.1 hy,hk] at hky;cases hky
 ·
  rcases List.mem_append.1 hy with hy | hy
  · exact h.ref y hy h11
  · rw [List.mem_singleton.1 hy] at h11 ⊢;exact hr h11
theorem Cj {N:List Nj} {n:Nat} {ks:List Nat} {y:Nj} (hy:y ∈ Cv N n ks):∃ x ∈ N,y.op=x.op/\y.tg=x.tg/\(y.ks=x.ks\/y.ks=ks):=by
 obtain ⟨j,hj⟩:=List.mem_iff_getElem?.1 hy;unfold Cv at hj;rw [List.getElem?_modify] at hj
 cases hx:N[j]? with
 | none=>rw [hx] at hj;cases hj
 | some x =>
  rw [hx] at hj;have hj:(if n=j then { x with ks:=ks } else x)=y:=by simpa using hj
  refine ⟨x,aM hx,?_⟩;subst hj;split
  · exact ⟨rfl,rfl,.inr rfl⟩
  · exact ⟨rfl,rfl,.inl rfl⟩
theorem Gd.setk {H:Nat} {N:List Nj} (h:Gd H N) (n:Nat) (ks:List Nat) (hks:∀ k ∈ ks,k < N.length) (hl:ks.length<=160):Gd H (Cv N n ks):=by
 refine ⟨by rw [Ci];exact h.len,fun y hy=>?_,fun y hy k hky=>?_,fun y hy h11=>?_⟩
 ·
  obtain ⟨x,hx,-,-,e | e⟩:=Cj hy
  · rw [e];exact h.kl x hx
  · rw [e];exact hl
 ·
  rw [Ci];obtain ⟨x,hx,-,-,e | e⟩:=Cj hy
  · rw [e] at hky;exact h.kid x hx k hky
  · rw [e] at hky;exact hks k hky
 · obtain ⟨x,hx,e1,e2,-⟩:=Cj hy;rw [e2];exact h.ref x hx (by rw [<- e1];exact h11)
theorem Jp {H:Nat} {P:Ex->List Nj->Pt}:∀ (K:List Ex) (N:List Nj) (ks:List Nat) (N':List Nj) (ks':List Nat),(∀ y ∈ K,∀ N N' n,Gd H N->P y N=(N',none,n)->Gd H N'/\N.length < N'.length/\n < N'.length) →
  Gd H N->(∀ k ∈ ks,k < N.length)->ks.length<=N.length->kV P K N ks=(N',none,ks')->Gd H N'/\(∀ k ∈ ks',k < N'.length)/\ks'.length<=N'.length/\N.length<=N'.length
 | [],N,ks,N',ks',hP,hg,hk,hl,h=>by have h:(N,(none:Option Ft3),ks)=(N',none,ks'):=h;injection h with e1 e2;injection e2 with _ e3;subst e1;subst e3;exact ⟨hg,hk,hl,Nat.le_refl _⟩
 | y :: r,N,ks,N',ks',hP,hg,hk,hl,h=>by
  unfold kV at h
  cases hy:P y N with
  | mk N1 q =>
   cases q with
   | mk F n =>
    rw [hy] at h
    cases F with
    | some f =>
     have h:(N1,(some f:Option Ft3),ks ++ [n])=(N',none,ks'):=h;injection h with _ e2;injection e2 with e3 _
     cases e3
    | none =>
     obtain ⟨g1,h1,h2⟩:=hP y (List.mem_cons_self ..) N N1 n hg hy
     obtain ⟨g2,h3,h4,h5⟩:=Jp r N1 (ks ++ [n]) N' ks' (fun z hz=>hP z (List.mem_cons_of_mem _ hz)) g1 (fun k hk2=>by
      rcases List.mem_append.1 hk2 with hk2 | hk2
      · have:=hk k hk2;omega
      · rw [List.mem_singleton.1 hk2];exact h2) (by rw [List.length_append,List.length_singleton];omega) h
     exact ⟨g2,h3,h4,by omega⟩
theorem KG {ML:List Md} {mod:Nat} {ru:Int}:∀ (d:Nat) (e:Ex) (N N':List Nj) (n:Nat),fit 90001 d e=true->Gd (xQ ML) N->uS ML (kU ML 0) mod ru d e N=(N',none,n)->Gd (xQ ML) N'/\N.length < N'.length/\n < N'.length
 | 0,e,N,N',n,hf,_,_=>by cases hf
 | d + 1,e,N,N',n,hf,hg,h=>by
  unfold uS at h;by_cases hN:160<=N.length
  ·
   rw [if_pos hN] at h;injection h with _ e2;injection e2 with e3 _
   cases e3
  ·
   rw [if_neg hN] at h
   cases ht:toO ML (kU ML 0) mod e with
   | none =>
    rw [ht] at h;injection h with _ e2;injection e2 with e3 _
    cases e3
   | some tt =>
    rw [ht] at h;have hp:Gd (xQ ML) (N ++ [sW e [] tt mod ru]):=hg.push (by omega) _ rfl (fun h11=>A4s ht h11);have h:AY N.length (kV (uS ML (kU ML 0) mod ru d) e.kids (N ++ [sW e [] tt mod ru]) [])=(N',none,n):=h
    cases hk:kV (uS ML (kU ML 0) mod ru d) e.kids (N ++ [sW e [] tt mod ru]) [] with
    | mk N1 q =>
     cases q with
     | mk F ks =>
      rw [hk] at h
      cases F with
      | some f =>
       have h:(N1,(some f:Option Ft3),N.length)=(N',none,n):=h;injection h with _ e2;injection e2 with e3 _
       cases e3
      | none =>
       have h:(Cv N1 N.length ks,(none:Option Ft3),N.length)=(N',none,n):=h;injection h with e1 e2;injection e2 with _ e3
       obtain ⟨g1,h1,h2,h3⟩:=Jp e.kids _ [] N1 ks (fun y hy M M' k hM hq=>by
        obtain ⟨j,hj⟩:=List.mem_iff_getElem?.1 hy
        exact KG d y M M' k (rQ hf hj) hM hq) hp (fun k hk=>by cases hk) (Nat.zero_le _) hk
       rw [List.length_append,List.length_singleton] at h3;subst e1;subst e3;refine ⟨g1.setk _ _ h1 (Nat.le_trans h2 g1.len),?_,?_⟩ <;> rw [Ci] <;> omega
theorem LM {H mod:Nat} {P:Int->Ex->List Nj->Pt}:∀ (rs:List (ByteArray × Ex)) (k:Nat) (N:List Nj) (A:List Hj) (N':List Nj) (A':List Hj),(∀ r ∈ rs,∀ i N N' n,Gd H N->P i r.2 N=(N',none,n)->Gd H N'/\N.length < N'.length/\n < N'.length) →
  Gd H N->(∀ h ∈ A,h.bo < N.length)->ruF P mod rs k N A=(N',none,A')->Gd H N'/\(∀ h ∈ A',h.bo < N'.length)/\A'.length=A.length + rs.length
 | [],k,N,A,N',A',hP,hg,hA,h=>by have h:(N,(none:Option Ft3),A)=(N',none,A'):=h;injection h with e1 e2;injection e2 with _ e3;subst e1;subst e3;exact ⟨hg,hA,rfl⟩
 | r :: rs,k,N,A,N',A',hP,hg,hA,h=>by
  unfold ruF at h
  cases hy:P (k:Int) r.2 N with
  | mk N1 q =>
   cases q with
   | mk F n =>
    rw [hy] at h
    cases F with
    | some f =>
     have h:(N1,(some f:Option Ft3),A ++ [⟨mod,r.1,n⟩])=(N',none,A'):=h;injection h with _ e2;injection e2 with e3 _
     cases e3
    | none =>
     obtain ⟨g1,h1,h2⟩:=hP r (List.mem_cons_self ..) k N N1 n hg hy
     obtain ⟨g2,h3,h4⟩:=LM rs (k + 1) N1 (A ++ [⟨mod,r.1,n⟩]) N' A' (fun z hz=>hP z (List.mem_cons_of_mem _ hz)) g1 (fun x hx=>by
      rcases List.mem_append.1 hx with hx | hx
      · have:=hA x hx;omega
      · rw [List.mem_singleton.1 hx];exact h2) h
     refine ⟨g2,h3,?_⟩;rw [h4,List.length_append,List.length_singleton,List.length_cons];omega
theorem IY {H:Nat} {P:Nat->Int->Ex->List Nj->Pt} (hP:∀ i k e N N' n,fit 90001 53 e=true->Gd H N->P i k e N=(N',none,n)->Gd H N'/\N.length < N'.length/\n < N'.length):∀ (l:List Md) (i:Nat) (s s':Sj),(∀ m ∈ l,fit 90001 53 m.wa=true/\∀ r ∈ m.ru,fit 90001 53 r.2=true) →
  Gd H s.ns->(∀ h ∈ s.hs,h.bo < s.ns.length)->mdF P l i s=(s',none)->Gd H s'.ns/\(∀ h ∈ s'.hs,h.bo < s'.ns.length)/\s'.hs.length=s.hs.length + xQ l
 | [],i,s,s',hl,hg,hh,h=>by have h:(s,(none:Option Ft3))=(s',none):=h;injection h with e1 _;subst e1;exact ⟨hg,hh,rfl⟩
 | m :: r,i,s,s',hl,hg,hh,h=>by
  obtain ⟨hw,hr⟩:=hl m (List.mem_cons_self ..);unfold mdF at h
  cases hwa:waF (P i) m s.ns with
  | mk N1 q =>
   cases q with
   | mk F wt =>
    rw [hwa] at h
    cases F with
    | some f=>injection h with _ e2;cases e2
    | none =>
     have g1:Gd H N1/\s.ns.length<=N1.length:=by
      unfold waF at hwa;by_cases hwet:m.wet=true
      ·
       rw [if_pos hwet] at hwa
       cases hp:P i (-1) m.wa s.ns with
       | mk N2 q2 =>
        cases q2 with
        | mk F2 n2 =>
         rw [hp] at hwa;have hwa:(N2,F2,(n2:Int))=(N1,none,wt):=hwa;injection hwa with e1 e2;injection e2 with e3 _;subst e1;subst e3;obtain ⟨q1,q2,-⟩:=hP i (-1) m.wa s.ns N2 n2 hw hg hp;exact ⟨q1,Nat.le_of_lt q2⟩
      · rw [if_neg hwet] at hwa;injection hwa with e1 _;subst e1;exact ⟨hg,Nat.le_refl _⟩
     have h:(match ruF (P i) i m.ru 0 N1 s.hs with
      | (N2,some f,A)=>((⟨s.ms ++ [m.nm],N2,A,s.ws ++ [wt]⟩:Sj),some f)
      | (N2,none,A)=>mdF P r (i + 1) ⟨s.ms ++ [m.nm],N2,A,s.ws ++ [wt]⟩)=(s',none):=h
     cases hru:ruF (P i) i m.ru 0 N1 s.hs with
     | mk N2 q2 =>
      cases q2 with
      | mk F2 A =>
       rw [hru] at h
       cases F2 with
       | some f=>injection h with _ e2;cases e2
       | none =>
        obtain ⟨g2,h2,h3⟩:=LM m.ru 0 N1 s.hs N2 A (fun y hy k N N' n hN hq=>hP i k y.2 N N' n (hr y hy) hN hq) g1.1 (fun x hx=>by have:=hh x hx;have:=g1.2;omega) hru;obtain ⟨g3,h4,h5⟩:=IY hP r (i + 1) ⟨s.ms ++ [m.nm],N2,A,s.ws ++ [wt]⟩ s' (fun y hy=>hl y (List.mem_cons_of_mem _ hy)) g2 h2 h;refine ⟨g3,h4,?_⟩;rw [h5];show A.length + xQ r=s.hs.length + (m.ru.length + xQ r);omega
theorem Xx {ML:List Md} {s:ByteArray} {gr:Gj} (hok:∀ m ∈ ML,Okm m) (h:iW ML s=.ok gr):Good gr:=by
 unfold iW at h
 cases h1:hdO ML with
 | some f=>rw [h1] at h;cases h
 | none =>
  rw [h1] at h
  cases h2:mdO ML with
  | mk g F =>
   rw [h2] at h
   cases F with
   | some f=>cases h
   | none =>
    cases h3:yZ ML (kU ML 0) s with
    | none=>rw [h3] at h;cases h
    | some st =>
     rw [h3] at h;have h:(Except.ok (⟨g.ms,g.ns,g.hs,g.ws,st⟩:Gj):Except Ft3 Gj)=.ok gr:=h;injection h with e;subst e
     obtain ⟨q1,q2,q3⟩:=IY (H:=xQ ML) (fun i k e N N' n hf hg hq=>KG 53 e N N' n hf hg hq) ML 0 ⟨[],[],[],[]⟩ g (fun m hm=>⟨(hok m hm).1.wa.2,fun r hr=>((hok m hm).1.bo r hr).2⟩)
      ⟨Nat.zero_le _,fun x hx=>(by cases hx),fun x hx=>(by cases hx),fun x hx=>(by cases hx)⟩ (fun x hx=>by cases hx) h2
     refine ⟨q1.len,fun x hx=>Nat.le_trans (q1.kl x hx) (by omega),q1.kid,fun x hx h11=>?_⟩;obtain ⟨t,ht,hlt⟩:=q1.ref x hx h11;have hq3:g.hs.length=0 + xQ ML:=q3;obtain ⟨hh,hhe⟩:∃ z,g.hs[t]?=some z:=⟨_,aG (by omega)⟩;exact ⟨t,hh,ht,hhe,q2 hh (aM hhe)⟩
theorem eG {l:List ByteArray} {s:ByteArray} {gr:Gj} (h:lM l s=some gr):Good gr:=by
 unfold lM at h
 cases h1:mX l with
 | none=>rw [h1] at h;cases h
 | some ML =>
  rw [h1] at h;have h:(if 50 < s.size then none else Xk (iW ML s))=some gr:=h;by_cases hs:50 < s.size
  · rw [if_pos hs] at h;cases h
  ·
   rw [if_neg hs] at h
   cases hj:iW ML s with
   | error f=>rw [hj] at h;cases h
   | ok g =>
    rw [hj] at h;have h:some g=some gr:=h;injection h with e;subst e;exact Xx (yG h1).1 hj
def Ar (x:Nj):Prop:=ownB x.op x.tx x.s0 x.s1 x.s2 x.s3 x.ks.length=true/\Oy x.s0 x.s1 x.s2 x.s3=true
theorem Ar.kids {x:Nj} (h:Ar x):dJ x.op x.ks.length=true:=by have h:=h.1;unfold ownB at h;rw [Bool.and_eq_true,Bool.and_eq_true] at h;exact h.1.2
theorem Ar.text {x:Nj} (h:Ar x) (h1:x.op=1):0 < x.tx.size/\x.tx.size<=40:=by have h:=h.1;unfold ownB at h;rw [Bool.and_eq_true,Bool.and_eq_true,h1,Oh,Bool.and_eq_true,decide_eq_true_eq,decide_eq_true_eq] at h;omega
def Ax (n:Nat) (e:Ex):Prop:=gQ n e=true/\TxA 100000 e
theorem LZ (N E:List Nj) (x:Nj) (ks:List Nat):Cv (N ++ x :: E) N.length ks=N ++ { x with ks:=ks } :: E:=by
 unfold Cv
 induction N with
 | nil=>rfl
 | cons y r ih =>
  show y :: (r ++ x :: E).modify r.length _=y :: (r ++ _);rw [ih]
theorem A0U {P:Ex->List Nj->Pt}:∀ (K:List Ex) (N:List Nj) (ks:List Nat) (N':List Nj) (ks':List Nat),(∀ y ∈ K,∀ N N' n,P y N=(N',none,n)->∃ E,N'=N ++ E/\∀ x ∈ E,Ar x) →
  kV P K N ks=(N',none,ks')->(∃ E,N'=N ++ E/\∀ x ∈ E,Ar x)/\ks'.length=ks.length + K.length
 | [],N,ks,N',ks',hP,h=>by have h:(N,(none:Option Ft3),ks)=(N',none,ks'):=h;injection h with e1 e2;injection e2 with _ e3;subst e1;subst e3;exact ⟨⟨[],by simp,fun x hx=>(by cases hx)⟩,rfl⟩
 | y :: r,N,ks,N',ks',hP,h=>by
  unfold kV at h
  cases hy:P y N with
  | mk N1 q =>
   cases q with
   | mk F n =>
    rw [hy] at h
    cases F with
    | some f =>
     have h:(N1,(some f:Option Ft3),ks ++ [n])=(N',none,ks'):=h;injection h with _ e2;injection e2 with e3 _
     cases e3
    | none =>
     obtain ⟨E1,h1,h2⟩:=hP y (List.mem_cons_self ..) N N1 n hy;obtain ⟨⟨E2,h3,h4⟩,h5⟩:=A0U r N1 (ks ++ [n]) N' ks' (fun z hz=>hP z (List.mem_cons_of_mem _ hz)) h;refine ⟨⟨E1 ++ E2,by rw [h3,h1,List.append_assoc],fun x hx=>?_⟩,?_⟩
     ·
      rcases List.mem_append.1 hx with hx | hx
      · exact h2 x hx
      · exact h4 x hx
     · rw [h5,List.length_append,List.length_singleton,List.length_cons];omega
theorem B2Z {ML:List Md} {mod:Nat} {ru:Int}:∀ (d:Nat) (e:Ex) (N N':List Nj) (n:Nat),Ax d e->uS ML (kU ML 0) mod ru d e N=(N',none,n)->∃ E,N'=N ++ E/\∀ x ∈ E,Ar x
 | 0,e,N,N',n,hf,_=>by cases hf.1
 | d + 1,e,N,N',n,hf,h=>by
  obtain ⟨hf,htx⟩:=hf;rw [jN,Bool.and_eq_true,List.all_eq_true] at hf;unfold uS at h;by_cases hN:160<=N.length
  ·
   rw [if_pos hN] at h;injection h with _ e2;injection e2 with e3 _
   cases e3
  ·
   rw [if_neg hN] at h
   cases ht:toO ML (kU ML 0) mod e with
   | none =>
    rw [ht] at h;injection h with _ e2;injection e2 with e3 _
    cases e3
   | some tt =>
    rw [ht] at h;have h:AY N.length (kV (uS ML (kU ML 0) mod ru d) e.kids (N ++ [sW e [] tt mod ru]) [])=(N',none,n):=h
    cases hk:kV (uS ML (kU ML 0) mod ru d) e.kids (N ++ [sW e [] tt mod ru]) [] with
    | mk N1 q =>
     cases q with
     | mk F ks =>
      rw [hk] at h
      cases F with
      | some f =>
       have h:(N1,(some f:Option Ft3),N.length)=(N',none,n):=h;injection h with _ e2;injection e2 with e3 _
       cases e3
      | none =>
       have h:(Cv N1 N.length ks,(none:Option Ft3),N.length)=(N',none,n):=h;injection h with e1 e2;obtain ⟨⟨E,h1,h2⟩,h3⟩:=A0U e.kids _ [] N1 ks (fun y hy M M' k hq=>B2Z d y M M' k ⟨hf.2 y hy,htx.kid hy⟩ hq) hk;have hl:ks.length=e.kids.length:=(by rw [h3];simp);rw [h1,List.append_assoc,List.singleton_append,LZ] at e1;refine ⟨_,e1.symm,fun x hx=>?_⟩;rcases List.mem_cons.1 hx with rfl | hx
       · show ownB e.op e.text e.s0 e.s1 e.s2 e.s3 ks.length=true/\Oy e.s0 e.s1 e.s2 e.s3=true;rw [hl];exact ⟨hf.1,htx.sets⟩
       · exact h2 x hx
theorem B2y {mod:Nat} {P:Int->Ex->List Nj->Pt}:∀ (rs:List (ByteArray × Ex)) (k:Nat) (N:List Nj) (A:List Hj) (N':List Nj) (A':List Hj),(∀ r ∈ rs,∀ i N N' n,P i r.2 N=(N',none,n)->∃ E,N'=N ++ E/\∀ x ∈ E,Ar x) →
  (∀ x ∈ N,Ar x)->ruF P mod rs k N A=(N',none,A')->∀ x ∈ N',Ar x
 | [],k,N,A,N',A',hP,hN,h=>by have h:(N,(none:Option Ft3),A)=(N',none,A'):=h;injection h with e1 e2;subst e1;exact hN
 | r :: rs,k,N,A,N',A',hP,hN,h=>by
  unfold ruF at h
  cases hy:P (k:Int) r.2 N with
  | mk N1 q =>
   cases q with
   | mk F n =>
    rw [hy] at h
    cases F with
    | some f =>
     have h:(N1,(some f:Option Ft3),A ++ [⟨mod,r.1,n⟩])=(N',none,A'):=h;injection h with _ e2;injection e2 with e3 _
     cases e3
    | none =>
     obtain ⟨E,h1,h2⟩:=hP r (List.mem_cons_self ..) k N N1 n hy;refine B2y rs (k + 1) N1 (A ++ [⟨mod,r.1,n⟩]) N' A' (fun z hz=>hP z (List.mem_cons_of_mem _ hz)) (fun x hx=>?_) h;rw [h1] at hx;rcases List.mem_append.1 hx with hx | hx
     · exact hN x hx
     · exact h2 x hx
theorem B1D {P:Nat->Int->Ex->List Nj->Pt} (hP:∀ i k e N N' n,Ax 53 e->P i k e N=(N',none,n)->∃ E,N'=N ++ E/\∀ x ∈ E,Ar x):∀ (l:List Md) (i:Nat) (s s':Sj),(∀ m ∈ l,Qx m=true/\Wel m) →
  (∀ x ∈ s.ns,Ar x)->mdF P l i s=(s',none)->∀ x ∈ s'.ns,Ar x
 | [],i,s,s',hl,hg,h=>by have h:(s,(none:Option Ft3))=(s',none):=h;injection h with e1 _;subst e1;exact hg
 | m :: r,i,s,s',hl,hg,h=>by
  obtain ⟨hr,hwl⟩:=hl m (List.mem_cons_self ..);unfold Qx at hr;simp only [Bool.and_eq_true] at hr;have hw:m.wet=true->Ax 53 m.wa:=fun hwet=>by have h1:=hr.1.1.2;rw [hwet,Bool.not_true,Bool.false_or] at h1;unfold dQ at h1;rw [Bool.and_eq_true] at h1;exact ⟨h1.2,hwl.wa.1⟩
  have hru0:∀ y ∈ m.ru,Ax 53 y.2:=fun y hy=>by have h1:=List.all_eq_true.1 hr.1.2 y hy;unfold dQ at h1;rw [Bool.and_eq_true] at h1;exact ⟨h1.2,(hwl.bo y hy).1⟩
  unfold mdF at h
  cases hwa:waF (P i) m s.ns with
  | mk N1 q =>
   cases q with
   | mk F wt =>
    rw [hwa] at h
    cases F with
    | some f=>injection h with _ e2;cases e2
    | none =>
     have g1:∀ x ∈ N1,Ar x:=by
      unfold waF at hwa;by_cases hwet:m.wet=true
      ·
       rw [if_pos hwet] at hwa
       cases hp:P i (-1) m.wa s.ns with
       | mk N2 q2 =>
        cases q2 with
        | mk F2 n2 =>
         rw [hp] at hwa;have hwa:(N2,F2,(n2:Int))=(N1,none,wt):=hwa;injection hwa with e1 e2;injection e2 with e3 _;subst e1;subst e3;obtain ⟨E,h1,h2⟩:=hP i (-1) m.wa s.ns N2 n2 (hw hwet) hp;intro x hx;rw [h1] at hx;rcases List.mem_append.1 hx with hx | hx
         · exact hg x hx
         · exact h2 x hx
      · rw [if_neg hwet] at hwa;injection hwa with e1 _;subst e1;exact hg
     have h:(match ruF (P i) i m.ru 0 N1 s.hs with
      | (N2,some f,A)=>((⟨s.ms ++ [m.nm],N2,A,s.ws ++ [wt]⟩:Sj),some f)
      | (N2,none,A)=>mdF P r (i + 1) ⟨s.ms ++ [m.nm],N2,A,s.ws ++ [wt]⟩)=(s',none):=h
     cases hru:ruF (P i) i m.ru 0 N1 s.hs with
     | mk N2 q2 =>
      cases q2 with
      | mk F2 A =>
       rw [hru] at h
       cases F2 with
       | some f=>injection h with _ e2;cases e2
       | none =>
        have g2:=B2y m.ru 0 N1 s.hs N2 A (fun y hy k N N' n hq=>hP i k y.2 N N' n (hru0 y hy) hq) g1 hru;exact B1D hP r (i + 1) ⟨s.ms ++ [m.nm],N2,A,s.ws ++ [wt]⟩ s' (fun y hy=>hl y (List.mem_cons_of_mem _ hy)) g2 h
theorem WH {a b:Option Ft3} (h:orF a b=none):a=none/\b=none:=by
 cases a with
 | some f=>cases h
 | none=>exact ⟨rfl,h⟩
theorem A0M (ML:List Md) (i:Nat):∀ (l:List ByteArray) (F:Option Ft3),imF ML i l F=none->F=none
 | [],F,h=>h
 | x :: r,F,h=>by
  unfold imF at h;have:=A0M ML i r _ h;split at this
  · exact (WH this).1
  · exact this
theorem Tv (ML:List Md):∀ (l:List Md) (i:Nat) (F:Option Ft3),hd2 ML l i F=none->F=none
 | [],i,F,h=>h
 | m :: r,i,F,h=>by unfold hd2 at h;exact A0M ML i m.im F (Tv ML r (i + 1) _ h)
theorem Tu (ML:List Md):∀ (l:List Md) (i s:Nat) (F:Option Ft3),hd1 ML l i s F=none->F=none/\∀ m ∈ l,Qx m=true
 | [],i,s,F,h=>⟨h,fun m hm=>(by cases hm)⟩
 | m :: r,i,s,F,h=>by
  unfold hd1 at h;obtain ⟨h1,h2⟩:=Tu ML r (i + 1) _ _ h;obtain ⟨h3,h4⟩:=WH (WH h1).1;refine ⟨h3,fun y hy=>?_⟩;rcases List.mem_cons.1 hy with rfl | hy
  ·
   unfold hdE at h4;by_cases hi:4<=i
   · rw [if_pos hi] at h4;cases h4
   ·
    rw [if_neg hi] at h4;by_cases hr:Qx y=false
    · rw [if_pos hr] at h4;cases h4
    · simpa using hr
  · exact h2 y hy
theorem B4v {ML:List Md} {s:ByteArray} {gr:Gj} (hwl:∀ m ∈ ML,Wel m) (h:iW ML s=.ok gr):∀ x ∈ gr.ns,Ar x:=by
 unfold iW at h
 cases h1:hdO ML with
 | some f=>rw [h1] at h;cases h
 | none =>
  rw [h1] at h
  cases h2:mdO ML with
  | mk g F =>
   rw [h2] at h
   cases F with
   | some f=>cases h
   | none =>
    cases h3:yZ ML (kU ML 0) s with
    | none=>rw [h3] at h;cases h
    | some st =>
     rw [h3] at h;have h:(Except.ok (⟨g.ms,g.ns,g.hs,g.ws,st⟩:Gj):Except Ft3 Gj)=.ok gr:=h;injection h with e;subst e;exact B1D (fun i k e N N' n hf hq=>B2Z 53 e N N' n hf hq) ML 0 ⟨[],[],[],[]⟩ g (fun m hm=>⟨(Tu ML ML 0 0 none (Tv ML ML 0 _ h1)).2 m hm,hwl m hm⟩) (fun x hx=>(by cases hx)) h2
theorem lN {l:List ByteArray} {s:ByteArray} {gr:Gj} (h:lM l s=some gr):∀ x ∈ gr.ns,Ar x:=by
 unfold lM at h
 cases h1:mX l with
 | none=>rw [h1] at h;cases h
 | some ML =>
  rw [h1] at h;have h:(if 50 < s.size then none else Xk (iW ML s))=some gr:=h;by_cases hs:50 < s.size
  · rw [if_pos hs] at h;cases h
  ·
   rw [if_neg hs] at h
   cases hj:iW ML s with
   | error f=>rw [hj] at h;cases h
   | ok g =>
    rw [hj] at h;have h:some g=some gr:=h;injection h with e;subst e;exact B4v (Vg h1) hj
def YC (R:(Nat->Bool)->Nat->Bool):Prop:=∀ (M M':Nat->Bool),(∀ n,M n=true->M' n=true)->∀ n,R M n=true->R M' n=true
theorem OI {M M':Nat->Bool} (h:∀ n,M n=true->M' n=true) {L:List Nat} (hl:L.any M=true):L.any M'=true:=by rw [List.any_eq_true] at hl ⊢;obtain ⟨x,hx,hm⟩:=hl;exact ⟨x,hx,h x hm⟩
theorem Kc {R:(Nat->Bool)->Nat->Bool} (hR:YC R):∀ (k n:Nat) (M:Nat->Bool) (z:Bool),(∀ j,M j=true->R M j=true)->∀ j,(dP R k n M z).1 j=true->R (dP R k n M z).1 j=true
 | 0,n,M,z,h=>h
 | k + 1,n,M,z,h=>by
  unfold dP;split
  ·
   next hc =>
   rw [Bool.and_eq_true] at hc;refine Kc hR k (n + 1) (dC M n) true fun j hj=>?_;have hle:∀ i,M i=true->dC M n i=true:=fun i hi=>(by unfold dC;split;rfl;exact hi);by_cases e:j=n
   · subst e;exact hR M _ hle j hc.2
   · refine hR M _ hle j (h j ?_);unfold dC at hj;rwa [if_neg e] at hj
  · exact Kc hR k (n + 1) M z h
theorem Qn {R:(Nat->Bool)->Nat->Bool}:∀ (k n:Nat) (M:Nat->Bool),(dP R k n M true).2=true
 | 0,n,M=>rfl
 | k + 1,n,M=>by
  unfold dP;split
  · exact Qn k (n + 1) _
  · exact Qn k (n + 1) _
theorem RG {R:(Nat->Bool)->Nat->Bool}:∀ (k n:Nat) (M:Nat->Bool),(dP R k n M false).2=false->(dP R k n M false).1=M/\∀ j,n<=j->j < n + k->(!M j && R M j)=false
 | 0,n,M,_=>⟨rfl,fun j h1 h2=>by omega⟩
 | k + 1,n,M,h=>by
  unfold dP at h ⊢;by_cases hc:(!M n && R M n)=true
  ·
   rw [if_pos hc] at h;rw [Qn] at h
   cases h
  ·
   rw [if_neg hc] at h ⊢;obtain ⟨h1,h2⟩:=RG k (n + 1) M h;refine ⟨h1,fun j hj1 hj2=>?_⟩;by_cases e:j=n
   · subst e;exact Bool.eq_false_iff.2 hc
   · exact h2 j (by omega) (by omega)
theorem Qm {R:(Nat->Bool)->Nat->Bool} (N:Nat):∀ (k n:Nat) (M:Nat->Bool) (z:Bool),n + k<=N->bF (dP R k n M z).1 N<=bF M N/\(z=false->(dP R k n M z).2=true->bF (dP R k n M z).1 N < bF M N)
 | 0,n,M,z,_=>⟨Nat.le_refl _,fun h1 h2=>by
  have h2:z=true:=h2
  rw [h1] at h2;cases h2⟩
 | k + 1,n,M,z,hk=>by
  unfold dP;by_cases hc:(!M n && R M n)=true
  · rw [if_pos hc];rw [Bool.and_eq_true] at hc;have hm:M n=false:=(by simpa using hc.1);have h1:=(Qm (R:=R) N k (n + 1) (dC M n) true (by omega)).1;have h2:=iR M n hm N;have h3:=gZ M n hm N (by omega);rw [if_pos (show n < N by omega)] at h2;exact ⟨by omega,fun _ _=>by omega⟩
  · rw [if_neg hc];exact Qm N k (n + 1) M z (by omega)
theorem Hl {R:(Nat->Bool)->Nat->Bool} (hR:YC R) (N:Nat):∀ (f:Nat) (M:Nat->Bool),bF M N < f->(∀ j,M j=true->R M j=true) →
  (∀ j,gK R N f M j=true->R (gK R N f M) j=true)/\∀ j,j < N->R (gK R N f M) j=true->gK R N f M j=true
 | 0,M,h,_=>by omega
 | f + 1,M,h,hs=>by
  unfold gK;have h1:=Kc hR N 0 M false hs;have h2:=Qm (R:=R) N N 0 M false (by omega);have h3:=RG (R:=R) N 0 M
  cases hp:dP R N 0 M false with
  | mk M1 z =>
   rw [hp] at h1 h2 h3
   cases z with
   | true =>
    have:=h2.2 rfl rfl;exact Hl hR N f M1 (by show bF M1 N < f;have h5:bF M1 N < bF M N:=this;omega) h1
   | false =>
    obtain ⟨h4,h5⟩:=h3 rfl;have h4:M1=M:=h4;subst h4;refine ⟨h1,fun j hj hr=>?_⟩;have:=h5 j (Nat.zero_le _) (by omega);rw [hr,Bool.and_true] at this;simpa using this
def gP (l:List Nj):List Nat:=l.flatMap (fun x=>x.ks)
theorem Bf (a b:List Nj):gP (a ++ b)=gP a ++ gP b:=List.flatMap_append ..
theorem mJ (x:Nj) (b:List Nj):gP (x :: b)=x.ks ++ gP b:=rfl
def TrE (b:Nat) (E:List Nj):Prop:=0 < E.length/\(gP E).Nodup/\∀ k ∈ gP E,b < k/\k < b + E.length
theorem Yc {a b:List Nat} {m:Nat} (ha:a.Nodup) (hb:b.Nodup) (h1:∀ x ∈ a,x < m) (h2:∀ x ∈ b,m<=x):(a ++ b).Nodup :=
 List.nodup_append.2 ⟨ha,hb,fun x hx y hy e=>by have:=h1 x hx;have:=h2 y hy;omega⟩
theorem A0W {P:Ex->List Nj->Pt}:∀ (K:List Ex) (N:List Nj) (ks:List Nat) (N':List Nj) (ks':List Nat),(∀ y ∈ K,∀ N N' n,P y N=(N',none,n)->n=N.length/\∃ E,N'=N ++ E/\TrE N.length E) →
  kV P K N ks=(N',none,ks')->∃ E rs,N'=N ++ E/\ks'=ks ++ rs/\(rs ++ gP E).Nodup/\∀ k ∈ rs ++ gP E,N.length<=k/\k < N.length + E.length
 | [],N,ks,N',ks',hP,h=>by have h:(N,(none:Option Ft3),ks)=(N',none,ks'):=h;injection h with e1 e2;injection e2 with _ e3;subst e1;subst e3;exact ⟨[],[],by simp,by simp,by simp [gP],fun k hk=>by simp [gP] at hk⟩
 | y :: r,N,ks,N',ks',hP,h=>by
  unfold kV at h
  cases hy:P y N with
  | mk N1 q =>
   cases q with
   | mk F n =>
    rw [hy] at h
    cases F with
    | some f =>
     have h:(N1,(some f:Option Ft3),ks ++ [n])=(N',none,ks'):=h;injection h with _ e2;injection e2 with e3 _
     cases e3
    | none =>
     obtain ⟨hn,E1,h1,h0,h2,h3⟩:=hP y (List.mem_cons_self ..) N N1 n hy;obtain ⟨E2,rs,h4,h5,h6,h7⟩:=A0W r N1 (ks ++ [n]) N' ks' (fun z hz=>hP z (List.mem_cons_of_mem _ hz)) h;have hl:N1.length=N.length + E1.length:=(by rw [h1,List.length_append]);rw [hl] at h7;refine ⟨E1 ++ E2,n :: rs,by rw [h4,h1,List.append_assoc],by rw [h5,List.append_assoc];rfl,?_,fun k hk=>?_⟩
     ·
      rw [Bf];have hp:(n :: rs ++ (gP E1 ++ gP E2)).Perm ((n :: gP E1) ++ (rs ++ gP E2)):=(by show (n :: (rs ++ (gP E1 ++ gP E2))).Perm (n :: (gP E1 ++ (rs ++ gP E2)));refine List.Perm.cons n ?_;rw [<- List.append_assoc,<- List.append_assoc];exact List.Perm.append_right _ List.perm_append_comm);refine hp.nodup_iff.2 (Yc (m:=N.length + E1.length) (List.nodup_cons.2 ⟨fun hm=>?_,h2⟩) h6 (fun x hx=>?_) (fun x hx=>(h7 x hx).1))
      · have:=(h3 n hm).1;omega
      ·
       rcases List.mem_cons.1 hx with rfl | hx
       · omega
       · exact (h3 x hx).2
     ·
      rw [List.length_append];rw [Bf] at hk;have hk:k=n\/k ∈ gP E1\/k ∈ rs ++ gP E2:=(by simp only [List.cons_append,List.mem_cons,List.mem_append] at hk ⊢;rcases hk with h | h | h | h <;> simp [h]);rcases hk with rfl | hk | hk
      · omega
      · have:=h3 k hk;omega
      · have:=h7 k hk;omega
theorem A4J {ML:List Md} {mod:Nat} {ru:Int}:∀ (d:Nat) (e:Ex) (N N':List Nj) (n:Nat),Ax d e->uS ML (kU ML 0) mod ru d e N=(N',none,n)->n=N.length/\∃ E,N'=N ++ E/\TrE N.length E
 | 0,e,N,N',n,hf,_=>by cases hf.1
 | d + 1,e,N,N',n,hf,h=>by
  obtain ⟨hf,htx⟩:=hf;rw [jN,Bool.and_eq_true,List.all_eq_true] at hf;unfold uS at h;by_cases hN:160<=N.length
  ·
   rw [if_pos hN] at h;injection h with _ e2;injection e2 with e3 _
   cases e3
  ·
   rw [if_neg hN] at h
   cases ht:toO ML (kU ML 0) mod e with
   | none =>
    rw [ht] at h;injection h with _ e2;injection e2 with e3 _
    cases e3
   | some tt =>
    rw [ht] at h;have h:AY N.length (kV (uS ML (kU ML 0) mod ru d) e.kids (N ++ [sW e [] tt mod ru]) [])=(N',none,n):=h
    cases hk:kV (uS ML (kU ML 0) mod ru d) e.kids (N ++ [sW e [] tt mod ru]) [] with
    | mk N1 q =>
     cases q with
     | mk F ks =>
      rw [hk] at h
      cases F with
      | some f =>
       have h:(N1,(some f:Option Ft3),N.length)=(N',none,n):=h;injection h with _ e2;injection e2 with e3 _
       cases e3
      | none =>
       have h:(Cv N1 N.length ks,(none:Option Ft3),N.length)=(N',none,n):=h;injection h with e1 e2;injection e2 with _ e3;obtain ⟨E,rs,h1,h2,h3,h4⟩:=A0W e.kids _ [] N1 ks (fun y hy M M' k hq=>A4J d y M M' k ⟨hf.2 y hy,htx.kid hy⟩ hq) hk;rw [h1,List.append_assoc,List.singleton_append,LZ] at e1;have h2:ks=rs:=h2;subst h2;refine ⟨e3.symm,_,e1.symm,by simp,?_,fun k hk=>?_⟩
       · rw [mJ];exact h3
       · rw [mJ] at hk;have:=h4 k hk;rw [List.length_append,List.length_singleton] at this;rw [List.length_cons];omega
def TrG (N:List Nj) (A:List Hj):Prop:=(A.map (fun h=>h.bo) ++ gP N).Nodup/\∀ k ∈ A.map (fun h=>h.bo) ++ gP N,k < N.length
theorem TrG.more {N:List Nj} {A:List Hj} (h:TrG N A) {E:List Nj} (hE:TrE N.length E):TrG (N ++ E) A:=by
 obtain ⟨h0,h2,h3⟩:=hE;refine ⟨?_,fun k hk=>?_⟩
 · rw [Bf,<- List.append_assoc];exact Yc (m:=N.length) h.1 h2 h.2 (fun x hx=>by have:=h3 x hx;omega)
 ·
  rw [Bf,<- List.append_assoc] at hk;rw [List.length_append];rcases List.mem_append.1 hk with hk | hk
  · have:=h.2 k hk;omega
  · have:=h3 k hk;omega
theorem TrG.rule {N:List Nj} {A:List Hj} (h:TrG N A) {E:List Nj} (hE:TrE N.length E) (x:Hj) (hx:x.bo=N.length):TrG (N ++ E) (A ++ [x]):=by
 obtain ⟨h0,h2,h3⟩:=hE;have hp:((A ++ [x]).map (fun h=>h.bo) ++ gP (N ++ E)).Perm ((A.map (fun h=>h.bo) ++ gP N) ++ (N.length :: gP E)):=by rw [List.map_append,Bf,List.map_singleton,hx];rw [List.append_assoc,List.append_assoc];refine List.Perm.append_left _ ?_;show (N.length :: (gP N ++ gP E)).Perm (gP N ++ N.length :: gP E);exact List.perm_middle.symm
 refine ⟨hp.nodup_iff.2 (Yc (m:=N.length) h.1 (List.nodup_cons.2 ⟨fun hm=>?_,h2⟩) h.2 (fun y hy=>?_)),fun k hk=>?_⟩
 · have:=(h3 _ hm).1;omega
 ·
  rcases List.mem_cons.1 hy with rfl | hy
  · exact Nat.le_refl _
  · have:=h3 y hy;omega
 ·
  have hk:=hp.mem_iff.1 hk;rw [List.length_append];rcases List.mem_append.1 hk with hk | hk
  · have:=h.2 k hk;omega
  ·
   rcases List.mem_cons.1 hk with rfl | hk
   · omega
   · have:=h3 k hk;omega
def MoE (mod:Nat) (N N':List Nj):Prop:=∃ E,N'=N ++ E/\∀ x ∈ E,x.mo=mod
theorem MoE.refl (mod:Nat) (N:List Nj):MoE mod N N:=⟨[],by simp,fun x hx=>(by cases hx)⟩
theorem MoE.trans {mod:Nat} {A B C:List Nj} (h:MoE mod A B) (g:MoE mod B C):MoE mod A C:=by obtain ⟨E,h1,h2⟩:=h;obtain ⟨G,g1,g2⟩:=g;exact ⟨E ++ G,by rw [g1,h1,List.append_assoc],fun x hx=>(List.mem_append.1 hx).elim (h2 x) (g2 x)⟩
theorem A0V {mod:Nat} {P:Ex->List Nj->Pt}:∀ (K:List Ex) (N:List Nj) (ks:List Nat) (r:Pk),(∀ y ∈ K,∀ N,MoE mod N (P y N).1)->kV P K N ks=r->MoE mod N r.1
 | [],N,ks,r,_,h=>by subst h;exact MoE.refl mod N
 | y :: t,N,ks,r,hP,h=>by
  have h1:=hP y (List.mem_cons_self ..) N;unfold kV at h
  cases hy:P y N with
  | mk N1 q =>
   cases q with
   | mk F n =>
    rw [hy] at h h1
    cases F with
    | some f=>subst h;exact h1
    | none=>exact h1.trans (A0V t N1 (ks ++ [n]) r (fun z hz=>hP z (List.mem_cons_of_mem _ hz)) h)
theorem B2a {ML:List Md} {F:List Nat} {mod:Nat} {ru:Int}:∀ (d:Nat) (e:Ex) (N:List Nj),MoE mod N (uS ML F mod ru d e N).1
 | 0,e,N=>MoE.refl mod N
 | d + 1,e,N=>by
  unfold uS;split
  · exact MoE.refl mod N
  ·
   split
   · exact MoE.refl mod N
   ·
    rename_i tt _;obtain ⟨E,h1,h2⟩:=A0V (mod:=mod) e.kids (N ++ [sW e [] tt mod ru]) [] _ (fun y _ M=>B2a d y M) rfl
    cases hk:kV (uS ML F mod ru d) e.kids (N ++ [sW e [] tt mod ru]) [] with
    | mk N1 q =>
     cases q with
     | mk F1 ks =>
      rw [hk] at h1;have h9:N1=N ++ [sW e [] tt mod ru] ++ E:=h1;clear h1
      cases F1 with
      | some f =>
       show MoE mod N N1;exact ⟨sW e [] tt mod ru :: E,by rw [h9,List.append_assoc];rfl,fun x hx=>by rcases List.mem_cons.1 hx with e | hx;rw [e];rfl;exact h2 x hx⟩
      | none =>
       show MoE mod N (Cv N1 N.length ks);rw [h9,List.append_assoc,List.singleton_append,LZ];exact ⟨_,rfl,fun x hx=>by rcases List.mem_cons.1 hx with e | hx;rw [e];rfl;exact h2 x hx⟩
theorem B2z {mod:Nat} {P:Int->Ex->List Nj->Pt} (hP:∀ k e N,MoE mod N (P k e N).1):∀ (rs:List (ByteArray × Ex)) (k:Nat) (N:List Nj) (A:List Hj),MoE mod N (ruF P mod rs k N A).1
 | [],k,N,A=>MoE.refl mod N
 | r :: rs,k,N,A=>by
  have h1:=hP (k:Int) r.2 N;unfold ruF
  cases hy:P (k:Int) r.2 N with
  | mk N1 q =>
   cases q with
   | mk F n =>
    rw [hy] at h1
    cases F with
    | some f=>exact h1
    | none=>exact h1.trans (B2z hP rs (k + 1) N1 _)
structure WaG (N:List Nj) (W:List Int) (c:Nat):Prop where
 len:W.length=c
 mo:∀ x ∈ N,x.mo < c
 ws:∀ y ∈ W,-1<=y/\y < (N.length:Int)
theorem B1F {P:Nat->Int->Ex->List Nj->Pt} (hM:∀ i k e N,MoE i N (P i k e N).1) (hP:∀ i k e N N' n,Ax 53 e->P i k e N=(N',none,n)->n=N.length/\∃ E,N'=N ++ E/\TrE N.length E):∀ (l:List Md) (i:Nat) (s s':Sj),(∀ m ∈ l,Qx m=true/\Wel m) →
  WaG s.ns s.ws i->mdF P l i s=(s',none)->WaG s'.ns s'.ws (i + l.length)
 | [],i,s,s',hl,hg,h=>by have h:(s,(none:Option Ft3))=(s',none):=h;injection h with e1 _;subst e1;exact hg
 | m :: r,i,s,s',hl,hg,h=>by
  obtain ⟨hr,hwl⟩:=hl m (List.mem_cons_self ..);unfold Qx at hr;simp only [Bool.and_eq_true] at hr;have hw:m.wet=true->Ax 53 m.wa:=fun hwet=>by have h1:=hr.1.1.2;rw [hwet,Bool.not_true,Bool.false_or] at h1;unfold dQ at h1;rw [Bool.and_eq_true] at h1;exact ⟨h1.2,hwl.wa.1⟩
  unfold mdF at h
  cases hwa:waF (P i) m s.ns with
  | mk N1 q =>
   cases q with
   | mk F wt =>
    rw [hwa] at h
    cases F with
    | some f=>injection h with _ e2;cases e2
    | none =>
     have g1:MoE i s.ns N1/\-1<=wt/\wt < (N1.length:Int):=by
      unfold waF at hwa;by_cases hwet:m.wet=true
      ·
       rw [if_pos hwet] at hwa;have hm:=hM i (-1) m.wa s.ns
       cases hp:P i (-1) m.wa s.ns with
       | mk N2 q2 =>
        cases q2 with
        | mk F2 n2 =>
         rw [hp] at hwa hm;have hwa:(N2,F2,(n2:Int))=(N1,none,wt):=hwa;injection hwa with e1 e2;injection e2 with e3 e4;subst e1;subst e3;obtain ⟨hn,E,h1,h2⟩:=hP i (-1) m.wa s.ns N2 n2 (hw hwet) hp;refine ⟨hm,?_⟩;have h3:=h2.1;rw [h1,List.length_append,<- e4,hn];omega
      · rw [if_neg hwet] at hwa;injection hwa with e1 e2;injection e2 with _ e4;subst e1;exact ⟨MoE.refl _ _,by omega,by omega⟩
     have h:(match ruF (P i) i m.ru 0 N1 s.hs with
      | (N2,some f,A)=>((⟨s.ms ++ [m.nm],N2,A,s.ws ++ [wt]⟩:Sj),some f)
      | (N2,none,A)=>mdF P r (i + 1) ⟨s.ms ++ [m.nm],N2,A,s.ws ++ [wt]⟩)=(s',none):=h
     have hm2:=B2z (hM i) m.ru 0 N1 s.hs
     cases hru:ruF (P i) i m.ru 0 N1 s.hs with
     | mk N2 q2 =>
      cases q2 with
      | mk F2 A =>
       rw [hru] at h hm2
       cases F2 with
       | some f=>injection h with _ e2;cases e2
       | none =>
        obtain ⟨E,e1,e2⟩:=g1.1.trans hm2;have e1:N2=s.ns ++ E:=e1;obtain ⟨E3,e3,-⟩:=hm2;have e3:N2=N1 ++ E3:=e3;have hlen:N1.length<=N2.length:=(by rw [e3,List.length_append];omega);have hlen2:s.ns.length<=N2.length:=by rw [e1,List.length_append];omega
        have g2:WaG N2 (s.ws ++ [wt]) (i + 1):=⟨by rw [List.length_append,hg.len];rfl,fun x hx=>by
         rw [e1] at hx;rcases List.mem_append.1 hx with hx | hx
         · have:=hg.mo x hx;omega
         · have:=e2 x hx;omega,fun y hy=>by
         rcases List.mem_append.1 hy with hy | hy
         · have:=hg.ws y hy;omega
         · rw [List.mem_singleton] at hy;rw [hy];have:=g1.2;omega⟩
        have h5:=B1F hM hP r (i + 1) ⟨s.ms ++ [m.nm],N2,A,s.ws ++ [wt]⟩ s' (fun y hy=>hl y (List.mem_cons_of_mem _ hy)) g2 h;rw [List.length_cons,show i + (r.length + 1)=i + 1 + r.length by omega];exact h5
theorem B4x {ML:List Md} {s:ByteArray} {gr:Gj} (hwl:∀ m ∈ ML,Wel m) (h:iW ML s=.ok gr):WaG gr.ns gr.ws ML.length:=by
 unfold iW at h
 cases h1:hdO ML with
 | some f=>rw [h1] at h;cases h
 | none =>
  rw [h1] at h
  cases h2:mdO ML with
  | mk g F =>
   rw [h2] at h
   cases F with
   | some f=>cases h
   | none =>
    cases h3:yZ ML (kU ML 0) s with
    | none=>rw [h3] at h;cases h
    | some st =>
     rw [h3] at h;have h:(Except.ok (⟨g.ms,g.ns,g.hs,g.ws,st⟩:Gj):Except Ft3 Gj)=.ok gr:=h;injection h with e;subst e;have h5:=B1F (fun i k e N=>B2a 53 e N) (fun i k e N N' n hf hq=>A4J 53 e N N' n hf hq) ML 0 ⟨[],[],[],[]⟩ g (fun m hm=>⟨(Tu ML ML 0 0 none (Tv ML ML 0 _ h1)).2 m hm,hwl m hm⟩) ⟨rfl,fun x hx=>(by cases hx),fun x hx=>(by cases hx)⟩ h2;rw [Nat.zero_add] at h5;exact h5
theorem Dq {l:List ByteArray} {s:ByteArray} {gr:Gj} (h:lM l s=some gr):WaG gr.ns gr.ws gr.ws.length:=by
 unfold lM at h
 cases h1:mX l with
 | none=>rw [h1] at h;cases h
 | some ML =>
  rw [h1] at h;have h:(if 50 < s.size then none else Xk (iW ML s))=some gr:=h;by_cases hs:50 < s.size
  · rw [if_pos hs] at h;cases h
  ·
   rw [if_neg hs] at h
   cases hj:iW ML s with
   | error f=>rw [hj] at h;cases h
   | ok g =>
    rw [hj] at h;have h:some g=some gr:=h;injection h with e;subst e;have h5:=B4x (Vg h1) hj;rw [h5.len];exact h5
end Go.Proofs.YthddifjhoniacaaGreat
