import Derived.Test.YthddifjhoniacaaGc
import Derived.Test.YthddifjhoniacaaJz
namespace Go.Proofs.Ythddifjhoniacaa
set_option linter.unusedVariables false
open Go.RowKit Go.Sort
def MoE (mod:Nat) (N N':List Nj):Prop:=∃ E,N'=N ++ E/\∀ x ∈ E,x.mo=mod
theorem MoE.refl (mod:Nat) (N:List Nj):MoE mod N N:=⟨[],by simp,fun x hx=>(by cases hx)⟩
theorem MoE.trans {mod:Nat} {A B C:List Nj} (h:MoE mod A B) (g:MoE mod B C):MoE mod A C:=by obtain ⟨E,h1,h2⟩:=h;obtain ⟨G,g1,g2⟩:=g;exact ⟨E ++ G,by rw [g1,h1,List.append_assoc],fun x hx=>(List.mem_append.1 hx).elim (h2 x) (g2 x)⟩
theorem kidsF_mo {mod:Nat} {P:Ex->List Nj->Pt}:∀ (K:List Ex) (N:List Nj) (ks:List Nat) (r:Pk),(∀ y ∈ K,∀ N,MoE mod N (P y N).1)->kidsF P K N ks=r->MoE mod N r.1
 | [],N,ks,r,_,h=>by subst h;exact MoE.refl mod N
 | y :: t,N,ks,r,hP,h=>by
  have h1:=hP y (List.mem_cons_self ..) N;unfold kidsF at h
  cases hy:P y N with
  | mk N1 q =>
   cases q with
   | mk F n =>
    rw [hy] at h h1
    cases F with
    | some f=>subst h;exact h1
    | none=>exact h1.trans (kidsF_mo t N1 (ks ++ [n]) r (fun z hz=>hP z (List.mem_cons_of_mem _ hz)) h)
theorem put_mo {ML:List Md} {F:List Nat} {mod:Nat} {ru:Int}:∀ (d:Nat) (e:Ex) (N:List Nj),MoE mod N (putN ML F mod ru d e N).1
 | 0,e,N=>MoE.refl mod N
 | d + 1,e,N=>by
  unfold putN;split
  · exact MoE.refl mod N
  ·
   split
   · exact MoE.refl mod N
   ·
    rename_i tt _;obtain ⟨E,h1,h2⟩:=kidsF_mo (mod:=mod) e.kids (N ++ [nodeJ e [] tt mod ru]) [] _ (fun y _ M=>put_mo d y M) rfl
    cases hk:kidsF (putN ML F mod ru d) e.kids (N ++ [nodeJ e [] tt mod ru]) [] with
    | mk N1 q =>
     cases q with
     | mk F1 ks =>
      rw [hk] at h1;have h9:N1=N ++ [nodeJ e [] tt mod ru] ++ E:=h1;clear h1
      cases F1 with
      | some f =>
       show MoE mod N N1;exact ⟨nodeJ e [] tt mod ru :: E,by rw [h9,List.append_assoc];rfl,fun x hx=>by rcases List.mem_cons.1 hx with e | hx;rw [e];rfl;exact h2 x hx⟩
      | none =>
       show MoE mod N (setK N1 N.length ks);rw [h9,List.append_assoc,List.singleton_append,setK_mid];exact ⟨_,rfl,fun x hx=>by rcases List.mem_cons.1 hx with e | hx;rw [e];rfl;exact h2 x hx⟩
theorem ruF_mo {mod:Nat} {P:Int->Ex->List Nj->Pt} (hP:∀ k e N,MoE mod N (P k e N).1):∀ (rs:List (ByteArray × Ex)) (k:Nat) (N:List Nj) (A:List Hj),MoE mod N (ruF P mod rs k N A).1
 | [],k,N,A=>MoE.refl mod N
 | r :: rs,k,N,A=>by
  have h1:=hP (k:Int) r.2 N;unfold ruF
  cases hy:P (k:Int) r.2 N with
  | mk N1 q =>
   cases q with
   | mk F n =>
    rw [hy] at h1
    cases F with
    | some f=>exact h1
    | none=>exact h1.trans (ruF_mo hP rs (k + 1) N1 _)
structure WaG (N:List Nj) (W:List Int) (c:Nat):Prop where
 len:W.length=c
 mo:∀ x ∈ N,x.mo < c
 ws:∀ y ∈ W,-1<=y/\y < (N.length:Int)
theorem mdF_wa {P:Nat->Int->Ex->List Nj->Pt} (hM:∀ i k e N,MoE i N (P i k e N).1) (hP:∀ i k e N N' n,Ax 53 e->P i k e N=(N',none,n)->n=N.length/\∃ E,N'=N ++ E/\TrE N.length E):∀ (l:List Md) (i:Nat) (s s':Sj),(∀ m ∈ l,rgtM m=true/\Wel m) →
  WaG s.ns s.ws i->mdF P l i s=(s',none)->WaG s'.ns s'.ws (i + l.length)
 | [],i,s,s',hl,hg,h=>by have h:(s,(none:Option Ft3))=(s',none):=h;injection h with e1 _;subst e1;exact hg
 | m :: r,i,s,s',hl,hg,h=>by
  obtain ⟨hr,hwl⟩:=hl m (List.mem_cons_self ..);unfold rgtM at hr;simp only [Bool.and_eq_true] at hr;have hw:m.wet=true->Ax 53 m.wa:=fun hwet=>by have h1:=hr.1.1.2;rw [hwet,Bool.not_true,Bool.false_or] at h1;unfold rightX at h1;rw [Bool.and_eq_true] at h1;exact ⟨h1.2,hwl.wa.1⟩
  unfold mdF at h
  cases hwa:waF (P i) m s.ns with
  | mk N1 q =>
   cases q with
   | mk F wt =>
    rw [hwa] at h
    cases F with
    | some f=>injection h with _ e2;cases e2
    | none =>
     have g1:MoE i s.ns N1/\-1<=wt/\wt < (N1.length:Int):=by
      unfold waF at hwa;by_cases hwet:m.wet=true
      ·
       rw [if_pos hwet] at hwa;have hm:=hM i (-1) m.wa s.ns
       cases hp:P i (-1) m.wa s.ns with
       | mk N2 q2 =>
        cases q2 with
        | mk F2 n2 =>
         rw [hp] at hwa hm;have hwa:(N2,F2,(n2:Int))=(N1,none,wt):=hwa;injection hwa with e1 e2;injection e2 with e3 e4;subst e1;subst e3;obtain ⟨hn,E,h1,h2⟩:=hP i (-1) m.wa s.ns N2 n2 (hw hwet) hp;refine ⟨hm,?_⟩;have h3:=h2.1;rw [h1,List.length_append,<- e4,hn];omega
      · rw [if_neg hwet] at hwa;injection hwa with e1 e2;injection e2 with _ e4;subst e1;exact ⟨MoE.refl _ _,by omega,by omega⟩
     have h:(match ruF (P i) i m.ru 0 N1 s.hs with
      | (N2,some f,A)=>((⟨s.ms ++ [m.nm],N2,A,s.ws ++ [wt]⟩:Sj),some f)
      | (N2,none,A)=>mdF P r (i + 1) ⟨s.ms ++ [m.nm],N2,A,s.ws ++ [wt]⟩)=(s',none):=h
     have hm2:=ruF_mo (hM i) m.ru 0 N1 s.hs
     cases hru:ruF (P i) i m.ru 0 N1 s.hs with
     | mk N2 q2 =>
      cases q2 with
      | mk F2 A =>
       rw [hru] at h hm2
       cases F2 with
       | some f=>injection h with _ e2;cases e2
       | none =>
        obtain ⟨E,e1,e2⟩:=g1.1.trans hm2;have e1:N2=s.ns ++ E:=e1;obtain ⟨E3,e3,-⟩:=hm2;have e3:N2=N1 ++ E3:=e3;have hlen:N1.length<=N2.length:=(by rw [e3,List.length_append];omega);have hlen2:s.ns.length<=N2.length:=by rw [e1,List.length_append];omega
        have g2:WaG N2 (s.ws ++ [wt]) (i + 1):=⟨by rw [List.length_append,hg.len];rfl,fun x hx=>by
         rw [e1] at hx;rcases List.mem_append.1 hx with hx | hx
         · have:=hg.mo x hx;omega
         · have:=e2 x hx;omega,fun y hy=>by
         rcases List.mem_append.1 hy with hy | hy
         · have:=hg.ws y hy;omega
         · rw [List.mem_singleton] at hy;rw [hy];have:=g1.2;omega⟩
        have h5:=mdF_wa hM hP r (i + 1) ⟨s.ms ++ [m.nm],N2,A,s.ws ++ [wt]⟩ s' (fun y hy=>hl y (List.mem_cons_of_mem _ hy)) g2 h;rw [List.length_cons,show i + (r.length + 1)=i + 1 + r.length by omega];exact h5
theorem join_wa {ML:List Md} {s:ByteArray} {gr:Gj} (hwl:∀ m ∈ ML,Wel m) (h:joinO ML s=.ok gr):WaG gr.ns gr.ws ML.length:=by
 unfold joinO at h
 cases h1:hdO ML with
 | some f=>rw [h1] at h;cases h
 | none =>
  rw [h1] at h
  cases h2:mdO ML with
  | mk g F =>
   rw [h2] at h
   cases F with
   | some f=>cases h
   | none =>
    cases h3:startO ML (fstL ML 0) s with
    | none=>rw [h3] at h;cases h
    | some st =>
     rw [h3] at h;have h:(Except.ok (⟨g.ms,g.ns,g.hs,g.ws,st⟩:Gj):Except Ft3 Gj)=.ok gr:=h;injection h with e;subst e;have h5:=mdF_wa (fun i k e N=>put_mo 53 e N) (fun i k e N N' n hf hq=>put_tr 53 e N N' n hf hq) ML 0 ⟨[],[],[],[]⟩ g (fun m hm=>⟨(hd1_none ML ML 0 0 none (hd2_none ML ML 0 _ h1)).2 m hm,hwl m hm⟩) ⟨rfl,fun x hx=>(by cases hx),fun x hx=>(by cases hx)⟩ h2;rw [Nat.zero_add] at h5;exact h5
theorem jnd_wa {l:List ByteArray} {s:ByteArray} {gr:Gj} (h:jndO l s=some gr):WaG gr.ns gr.ws gr.ws.length:=by
 unfold jndO at h
 cases h1:prsO l with
 | none=>rw [h1] at h;cases h
 | some ML =>
  rw [h1] at h;have h:(if 50 < s.size then none else exO2 (joinO ML s))=some gr:=h;by_cases hs:50 < s.size
  · rw [if_pos hs] at h;cases h
  ·
   rw [if_neg hs] at h
   cases hj:joinO ML s with
   | error f=>rw [hj] at h;cases h
   | ok g =>
    rw [hj] at h;have h:some g=some gr:=h;injection h with e;subst e;have h5:=join_wa (prsO_wel h1) hj;rw [h5.len];exact h5
def totL:List Md->Nat
 | []=>0
 | m :: r=>m.ru.length + totL r
theorem fst_lt:∀ (ML:List Md) (s m:Nat) (md:Md),ML[m]?=some md->(fstL ML s).getD m 0 + md.ru.length<=s + totL ML
 | [],s,m,md,h=>by simp at h
 | x :: r,s,0,md,h=>by
  have h:x=md:=by simpa using h
  subst h;show s + x.ru.length<=s + (x.ru.length + totL r);omega
 | x :: r,s,m + 1,md,h=>by have:=fst_lt r (s + x.ru.length) m md (by simpa using h);show (fstL r (s + x.ru.length)).getD m 0 + md.ru.length<=s + (x.ru.length + totL r);omega
theorem toO_lt {ML:List Md} {mod:Nat} {e:Ex} {tt:Int} (h:toO ML (fstL ML 0) mod e=some tt) (h11:e.op=11):∃ t:Nat,tt=(t:Int)/\t < totL ML:=by
 unfold toO at h;rw [if_pos h11] at h
 cases hr:resO ML (mod:Int) e.text with
 | mk m q =>
  cases q with
  | mk r b =>
   rw [hr] at h
   cases b with
   | false=>cases h
   | true =>
    obtain ⟨mm,md,rfl,hmd,-,h0,hlt⟩:=resO_bd hr;have e1:(((fstL ML 0).getD (mm:Int).toNat 0:Nat):Int) + r=tt:=(by injection h);have e2:=fst_lt ML 0 mm md hmd;rw [Int.toNat_natCast] at e1;exact ⟨(fstL ML 0).getD mm 0 + r.toNat,by omega,by omega⟩
structure Gd (H:Nat) (N:List Nj):Prop where
 len:N.length<=160
 kl:∀ x ∈ N,x.ks.length<=160
 kid:∀ x ∈ N,∀ k ∈ x.ks,k < N.length
 ref:∀ x ∈ N,x.op=11->∃ t:Nat,x.tg=(t:Int)/\t < H
theorem Gd.push {H:Nat} {N:List Nj} (h:Gd H N) (hN:N.length < 160) (x:Nj) (hk:x.ks=[]) (hr:x.op=11->∃ t:Nat,x.tg=(t:Int)/\t < H):Gd H (N ++ [x]):=by
 refine ⟨by rw [List.length_append,List.length_singleton];omega,fun y hy=>?_,fun y hy k hky=>?_,fun y hy h11=>?_⟩
 ·
  rcases List.mem_append.1 hy with hy | hy
  · exact h.kl y hy
  · rw [List.mem_singleton.1 hy,hk];simp
 ·
  rw [List.length_append,List.length_singleton];rcases List.mem_append.1 hy with hy | hy
  · have:=h.kid y hy k hky;omega
  · rw [List.mem_singleton.1 hy,hk] at hky;cases hky
 ·
  rcases List.mem_append.1 hy with hy | hy
  · exact h.ref y hy h11
  · rw [List.mem_singleton.1 hy] at h11 ⊢;exact hr h11
theorem setK_mem {N:List Nj} {n:Nat} {ks:List Nat} {y:Nj} (hy:y ∈ setK N n ks):∃ x ∈ N,y.op=x.op/\y.tg=x.tg/\(y.ks=x.ks\/y.ks=ks):=by
 obtain ⟨j,hj⟩:=List.mem_iff_getElem?.1 hy;unfold setK at hj;rw [List.getElem?_modify] at hj
 cases hx:N[j]? with
 | none=>rw [hx] at hj;cases hj
 | some x =>
  rw [hx] at hj;have hj:(if n=j then { x with ks:=ks } else x)=y:=by simpa using hj
  refine ⟨x,aM hx,?_⟩;subst hj;split
  · exact ⟨rfl,rfl,.inr rfl⟩
  · exact ⟨rfl,rfl,.inl rfl⟩
theorem Gd.setk {H:Nat} {N:List Nj} (h:Gd H N) (n:Nat) (ks:List Nat) (hks:∀ k ∈ ks,k < N.length) (hl:ks.length<=160):Gd H (setK N n ks):=by
 refine ⟨by rw [setK_len];exact h.len,fun y hy=>?_,fun y hy k hky=>?_,fun y hy h11=>?_⟩
 ·
  obtain ⟨x,hx,-,-,e | e⟩:=setK_mem hy
  · rw [e];exact h.kl x hx
  · rw [e];exact hl
 ·
  rw [setK_len];obtain ⟨x,hx,-,-,e | e⟩:=setK_mem hy
  · rw [e] at hky;exact h.kid x hx k hky
  · rw [e] at hky;exact hks k hky
 · obtain ⟨x,hx,e1,e2,-⟩:=setK_mem hy;rw [e2];exact h.ref x hx (by rw [<- e1];exact h11)
theorem kidsF_ok {H:Nat} {P:Ex->List Nj->Pt}:∀ (K:List Ex) (N:List Nj) (ks:List Nat) (N':List Nj) (ks':List Nat),(∀ y ∈ K,∀ N N' n,Gd H N->P y N=(N',none,n)->Gd H N'/\N.length < N'.length/\n < N'.length) →
  Gd H N->(∀ k ∈ ks,k < N.length)->ks.length<=N.length->kidsF P K N ks=(N',none,ks')->Gd H N'/\(∀ k ∈ ks',k < N'.length)/\ks'.length<=N'.length/\N.length<=N'.length
 | [],N,ks,N',ks',hP,hg,hk,hl,h=>by have h:(N,(none:Option Ft3),ks)=(N',none,ks'):=h;injection h with e1 e2;injection e2 with _ e3;subst e1;subst e3;exact ⟨hg,hk,hl,Nat.le_refl _⟩
 | y :: r,N,ks,N',ks',hP,hg,hk,hl,h=>by
  unfold kidsF at h
  cases hy:P y N with
  | mk N1 q =>
   cases q with
   | mk F n =>
    rw [hy] at h
    cases F with
    | some f =>
     have h:(N1,(some f:Option Ft3),ks ++ [n])=(N',none,ks'):=h;injection h with _ e2;injection e2 with e3 _
     cases e3
    | none =>
     obtain ⟨g1,h1,h2⟩:=hP y (List.mem_cons_self ..) N N1 n hg hy
     obtain ⟨g2,h3,h4,h5⟩:=kidsF_ok r N1 (ks ++ [n]) N' ks' (fun z hz=>hP z (List.mem_cons_of_mem _ hz)) g1 (fun k hk2=>by
      rcases List.mem_append.1 hk2 with hk2 | hk2
      · have:=hk k hk2;omega
      · rw [List.mem_singleton.1 hk2];exact h2) (by rw [List.length_append,List.length_singleton];omega) h
     exact ⟨g2,h3,h4,by omega⟩
theorem put_ok {ML:List Md} {mod:Nat} {ru:Int}:∀ (d:Nat) (e:Ex) (N N':List Nj) (n:Nat),fit 90001 d e=true->Gd (totL ML) N->putN ML (fstL ML 0) mod ru d e N=(N',none,n)->Gd (totL ML) N'/\N.length < N'.length/\n < N'.length
 | 0,e,N,N',n,hf,_,_=>by cases hf
 | d + 1,e,N,N',n,hf,hg,h=>by
  unfold putN at h;by_cases hN:160<=N.length
  ·
   rw [if_pos hN] at h;injection h with _ e2;injection e2 with e3 _
   cases e3
  ·
   rw [if_neg hN] at h
   cases ht:toO ML (fstL ML 0) mod e with
   | none =>
    rw [ht] at h;injection h with _ e2;injection e2 with e3 _
    cases e3
   | some tt =>
    rw [ht] at h;have hp:Gd (totL ML) (N ++ [nodeJ e [] tt mod ru]):=hg.push (by omega) _ rfl (fun h11=>toO_lt ht h11);have h:endK N.length (kidsF (putN ML (fstL ML 0) mod ru d) e.kids (N ++ [nodeJ e [] tt mod ru]) [])=(N',none,n):=h
    cases hk:kidsF (putN ML (fstL ML 0) mod ru d) e.kids (N ++ [nodeJ e [] tt mod ru]) [] with
    | mk N1 q =>
     cases q with
     | mk F ks =>
      rw [hk] at h
      cases F with
      | some f =>
       have h:(N1,(some f:Option Ft3),N.length)=(N',none,n):=h;injection h with _ e2;injection e2 with e3 _
       cases e3
      | none =>
       have h:(setK N1 N.length ks,(none:Option Ft3),N.length)=(N',none,n):=h;injection h with e1 e2;injection e2 with _ e3
       obtain ⟨g1,h1,h2,h3⟩:=kidsF_ok e.kids _ [] N1 ks (fun y hy M M' k hM hq=>by
        obtain ⟨j,hj⟩:=List.mem_iff_getElem?.1 hy
        exact put_ok d y M M' k (fit_kid hf hj) hM hq) hp (fun k hk=>by cases hk) (Nat.zero_le _) hk
       rw [List.length_append,List.length_singleton] at h3;subst e1;subst e3;refine ⟨g1.setk _ _ h1 (Nat.le_trans h2 g1.len),?_,?_⟩ <;> rw [setK_len] <;> omega
theorem ruF_ok {H mod:Nat} {P:Int->Ex->List Nj->Pt}:∀ (rs:List (ByteArray × Ex)) (k:Nat) (N:List Nj) (A:List Hj) (N':List Nj) (A':List Hj),(∀ r ∈ rs,∀ i N N' n,Gd H N->P i r.2 N=(N',none,n)->Gd H N'/\N.length < N'.length/\n < N'.length) →
  Gd H N->(∀ h ∈ A,h.bo < N.length)->ruF P mod rs k N A=(N',none,A')->Gd H N'/\(∀ h ∈ A',h.bo < N'.length)/\A'.length=A.length + rs.length
 | [],k,N,A,N',A',hP,hg,hA,h=>by have h:(N,(none:Option Ft3),A)=(N',none,A'):=h;injection h with e1 e2;injection e2 with _ e3;subst e1;subst e3;exact ⟨hg,hA,rfl⟩
 | r :: rs,k,N,A,N',A',hP,hg,hA,h=>by
  unfold ruF at h
  cases hy:P (k:Int) r.2 N with
  | mk N1 q =>
   cases q with
   | mk F n =>
    rw [hy] at h
    cases F with
    | some f =>
     have h:(N1,(some f:Option Ft3),A ++ [⟨mod,r.1,n⟩])=(N',none,A'):=h;injection h with _ e2;injection e2 with e3 _
     cases e3
    | none =>
     obtain ⟨g1,h1,h2⟩:=hP r (List.mem_cons_self ..) k N N1 n hg hy
     obtain ⟨g2,h3,h4⟩:=ruF_ok rs (k + 1) N1 (A ++ [⟨mod,r.1,n⟩]) N' A' (fun z hz=>hP z (List.mem_cons_of_mem _ hz)) g1 (fun x hx=>by
      rcases List.mem_append.1 hx with hx | hx
      · have:=hA x hx;omega
      · rw [List.mem_singleton.1 hx];exact h2) h
     refine ⟨g2,h3,?_⟩;rw [h4,List.length_append,List.length_singleton,List.length_cons];omega
theorem mdF_ok {H:Nat} {P:Nat->Int->Ex->List Nj->Pt} (hP:∀ i k e N N' n,fit 90001 53 e=true->Gd H N->P i k e N=(N',none,n)->Gd H N'/\N.length < N'.length/\n < N'.length):∀ (l:List Md) (i:Nat) (s s':Sj),(∀ m ∈ l,fit 90001 53 m.wa=true/\∀ r ∈ m.ru,fit 90001 53 r.2=true) →
  Gd H s.ns->(∀ h ∈ s.hs,h.bo < s.ns.length)->mdF P l i s=(s',none)->Gd H s'.ns/\(∀ h ∈ s'.hs,h.bo < s'.ns.length)/\s'.hs.length=s.hs.length + totL l
 | [],i,s,s',hl,hg,hh,h=>by have h:(s,(none:Option Ft3))=(s',none):=h;injection h with e1 _;subst e1;exact ⟨hg,hh,rfl⟩
 | m :: r,i,s,s',hl,hg,hh,h=>by
  obtain ⟨hw,hr⟩:=hl m (List.mem_cons_self ..);unfold mdF at h
  cases hwa:waF (P i) m s.ns with
  | mk N1 q =>
   cases q with
   | mk F wt =>
    rw [hwa] at h
    cases F with
    | some f=>injection h with _ e2;cases e2
    | none =>
     have g1:Gd H N1/\s.ns.length<=N1.length:=by
      unfold waF at hwa;by_cases hwet:m.wet=true
      ·
       rw [if_pos hwet] at hwa
       cases hp:P i (-1) m.wa s.ns with
       | mk N2 q2 =>
        cases q2 with
        | mk F2 n2 =>
         rw [hp] at hwa;have hwa:(N2,F2,(n2:Int))=(N1,none,wt):=hwa;injection hwa with e1 e2;injection e2 with e3 _;subst e1;subst e3;obtain ⟨q1,q2,-⟩:=hP i (-1) m.wa s.ns N2 n2 hw hg hp;exact ⟨q1,Nat.le_of_lt q2⟩
      · rw [if_neg hwet] at hwa;injection hwa with e1 _;subst e1;exact ⟨hg,Nat.le_refl _⟩
     have h:(match ruF (P i) i m.ru 0 N1 s.hs with
      | (N2,some f,A)=>((⟨s.ms ++ [m.nm],N2,A,s.ws ++ [wt]⟩:Sj),some f)
      | (N2,none,A)=>mdF P r (i + 1) ⟨s.ms ++ [m.nm],N2,A,s.ws ++ [wt]⟩)=(s',none):=h
     cases hru:ruF (P i) i m.ru 0 N1 s.hs with
     | mk N2 q2 =>
      cases q2 with
      | mk F2 A =>
       rw [hru] at h
       cases F2 with
       | some f=>injection h with _ e2;cases e2
       | none =>
        obtain ⟨g2,h2,h3⟩:=ruF_ok m.ru 0 N1 s.hs N2 A (fun y hy k N N' n hN hq=>hP i k y.2 N N' n (hr y hy) hN hq) g1.1 (fun x hx=>by have:=hh x hx;have:=g1.2;omega) hru;obtain ⟨g3,h4,h5⟩:=mdF_ok hP r (i + 1) ⟨s.ms ++ [m.nm],N2,A,s.ws ++ [wt]⟩ s' (fun y hy=>hl y (List.mem_cons_of_mem _ hy)) g2 h2 h;refine ⟨g3,h4,?_⟩;rw [h5];show A.length + totL r=s.hs.length + (m.ru.length + totL r);omega
theorem join_good {ML:List Md} {s:ByteArray} {gr:Gj} (hok:∀ m ∈ ML,Okm m) (h:joinO ML s=.ok gr):Good gr:=by
 unfold joinO at h
 cases h1:hdO ML with
 | some f=>rw [h1] at h;cases h
 | none =>
  rw [h1] at h
  cases h2:mdO ML with
  | mk g F =>
   rw [h2] at h
   cases F with
   | some f=>cases h
   | none =>
    cases h3:startO ML (fstL ML 0) s with
    | none=>rw [h3] at h;cases h
    | some st =>
     rw [h3] at h;have h:(Except.ok (⟨g.ms,g.ns,g.hs,g.ws,st⟩:Gj):Except Ft3 Gj)=.ok gr:=h;injection h with e;subst e
     obtain ⟨q1,q2,q3⟩:=mdF_ok (H:=totL ML) (fun i k e N N' n hf hg hq=>put_ok 53 e N N' n hf hg hq) ML 0 ⟨[],[],[],[]⟩ g (fun m hm=>⟨(hok m hm).1.wa.2,fun r hr=>((hok m hm).1.bo r hr).2⟩)
      ⟨Nat.zero_le _,fun x hx=>(by cases hx),fun x hx=>(by cases hx),fun x hx=>(by cases hx)⟩ (fun x hx=>by cases hx) h2
     refine ⟨q1.len,fun x hx=>Nat.le_trans (q1.kl x hx) (by omega),q1.kid,fun x hx h11=>?_⟩;obtain ⟨t,ht,hlt⟩:=q1.ref x hx h11;have hq3:g.hs.length=0 + totL ML:=q3;obtain ⟨hh,hhe⟩:∃ z,g.hs[t]?=some z:=⟨_,aG (by omega)⟩;exact ⟨t,hh,ht,hhe,q2 hh (aM hhe)⟩
theorem jnd_good {l:List ByteArray} {s:ByteArray} {gr:Gj} (h:jndO l s=some gr):Good gr:=by
 unfold jndO at h
 cases h1:prsO l with
 | none=>rw [h1] at h;cases h
 | some ML =>
  rw [h1] at h;have h:(if 50 < s.size then none else exO2 (joinO ML s))=some gr:=h;by_cases hs:50 < s.size
  · rw [if_pos hs] at h;cases h
  ·
   rw [if_neg hs] at h
   cases hj:joinO ML s with
   | error f=>rw [hj] at h;cases h
   | ok g =>
    rw [hj] at h;have h:some g=some gr:=h;injection h with e;subst e;exact join_good (prsO_okm h1).1 hj
end Go.Proofs.Ythddifjhoniacaa
