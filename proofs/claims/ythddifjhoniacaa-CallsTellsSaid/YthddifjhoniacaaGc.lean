import Derived.Test.YthddifjhoniacaaJz
import Derived.Test.YthddifjhoniacaaIa
namespace Go.Proofs.Ythddifjhoniacaa
set_option linter.unusedVariables false
open Go.RowKit Go.Sort
def Ar (x:Nj):Prop:=ownB x.op x.tx x.s0 x.s1 x.s2 x.s3 x.ks.length=true/\fitI x.s0 x.s1 x.s2 x.s3=true
theorem Ar.kids {x:Nj} (h:Ar x):kidsB x.op x.ks.length=true:=by have h:=h.1;unfold ownB at h;rw [Bool.and_eq_true,Bool.and_eq_true] at h;exact h.1.2
theorem Ar.text {x:Nj} (h:Ar x) (h1:x.op=1):0 < x.tx.size/\x.tx.size<=40:=by have h:=h.1;unfold ownB at h;rw [Bool.and_eq_true,Bool.and_eq_true,h1,textB_1,Bool.and_eq_true,decide_eq_true_eq,decide_eq_true_eq] at h;omega
def Ax (n:Nat) (e:Ex):Prop:=allX n e=true/\TxA 100000 e
theorem setK_mid (N E:List Nj) (x:Nj) (ks:List Nat):setK (N ++ x :: E) N.length ks=N ++ { x with ks:=ks } :: E:=by
 unfold setK
 induction N with
 | nil=>rfl
 | cons y r ih =>
  show y :: (r ++ x :: E).modify r.length _=y :: (r ++ _);rw [ih]
theorem kidsF_ar {P:Ex->List Nj->Pt}:∀ (K:List Ex) (N:List Nj) (ks:List Nat) (N':List Nj) (ks':List Nat),(∀ y ∈ K,∀ N N' n,P y N=(N',none,n)->∃ E,N'=N ++ E/\∀ x ∈ E,Ar x) →
  kidsF P K N ks=(N',none,ks')->(∃ E,N'=N ++ E/\∀ x ∈ E,Ar x)/\ks'.length=ks.length + K.length
 | [],N,ks,N',ks',hP,h=>by have h:(N,(none:Option Ft3),ks)=(N',none,ks'):=h;injection h with e1 e2;injection e2 with _ e3;subst e1;subst e3;exact ⟨⟨[],by simp,fun x hx=>(by cases hx)⟩,rfl⟩
 | y :: r,N,ks,N',ks',hP,h=>by
  unfold kidsF at h
  cases hy:P y N with
  | mk N1 q =>
   cases q with
   | mk F n =>
    rw [hy] at h
    cases F with
    | some f =>
     have h:(N1,(some f:Option Ft3),ks ++ [n])=(N',none,ks'):=h;injection h with _ e2;injection e2 with e3 _
     cases e3
    | none =>
     obtain ⟨E1,h1,h2⟩:=hP y (List.mem_cons_self ..) N N1 n hy;obtain ⟨⟨E2,h3,h4⟩,h5⟩:=kidsF_ar r N1 (ks ++ [n]) N' ks' (fun z hz=>hP z (List.mem_cons_of_mem _ hz)) h;refine ⟨⟨E1 ++ E2,by rw [h3,h1,List.append_assoc],fun x hx=>?_⟩,?_⟩
     ·
      rcases List.mem_append.1 hx with hx | hx
      · exact h2 x hx
      · exact h4 x hx
     · rw [h5,List.length_append,List.length_singleton,List.length_cons];omega
theorem put_ar {ML:List Md} {mod:Nat} {ru:Int}:∀ (d:Nat) (e:Ex) (N N':List Nj) (n:Nat),Ax d e->putN ML (fstL ML 0) mod ru d e N=(N',none,n)->∃ E,N'=N ++ E/\∀ x ∈ E,Ar x
 | 0,e,N,N',n,hf,_=>by cases hf.1
 | d + 1,e,N,N',n,hf,h=>by
  obtain ⟨hf,htx⟩:=hf;rw [allX_succ,Bool.and_eq_true,List.all_eq_true] at hf;unfold putN at h;by_cases hN:160<=N.length
  ·
   rw [if_pos hN] at h;injection h with _ e2;injection e2 with e3 _
   cases e3
  ·
   rw [if_neg hN] at h
   cases ht:toO ML (fstL ML 0) mod e with
   | none =>
    rw [ht] at h;injection h with _ e2;injection e2 with e3 _
    cases e3
   | some tt =>
    rw [ht] at h;have h:endK N.length (kidsF (putN ML (fstL ML 0) mod ru d) e.kids (N ++ [nodeJ e [] tt mod ru]) [])=(N',none,n):=h
    cases hk:kidsF (putN ML (fstL ML 0) mod ru d) e.kids (N ++ [nodeJ e [] tt mod ru]) [] with
    | mk N1 q =>
     cases q with
     | mk F ks =>
      rw [hk] at h
      cases F with
      | some f =>
       have h:(N1,(some f:Option Ft3),N.length)=(N',none,n):=h;injection h with _ e2;injection e2 with e3 _
       cases e3
      | none =>
       have h:(setK N1 N.length ks,(none:Option Ft3),N.length)=(N',none,n):=h;injection h with e1 e2;obtain ⟨⟨E,h1,h2⟩,h3⟩:=kidsF_ar e.kids _ [] N1 ks (fun y hy M M' k hq=>put_ar d y M M' k ⟨hf.2 y hy,htx.kid hy⟩ hq) hk;have hl:ks.length=e.kids.length:=(by rw [h3];simp);rw [h1,List.append_assoc,List.singleton_append,setK_mid] at e1;refine ⟨_,e1.symm,fun x hx=>?_⟩;rcases List.mem_cons.1 hx with rfl | hx
       · show ownB e.op e.text e.s0 e.s1 e.s2 e.s3 ks.length=true/\fitI e.s0 e.s1 e.s2 e.s3=true;rw [hl];exact ⟨hf.1,htx.sets⟩
       · exact h2 x hx
theorem ruF_ar {mod:Nat} {P:Int->Ex->List Nj->Pt}:∀ (rs:List (ByteArray × Ex)) (k:Nat) (N:List Nj) (A:List Hj) (N':List Nj) (A':List Hj),(∀ r ∈ rs,∀ i N N' n,P i r.2 N=(N',none,n)->∃ E,N'=N ++ E/\∀ x ∈ E,Ar x) →
  (∀ x ∈ N,Ar x)->ruF P mod rs k N A=(N',none,A')->∀ x ∈ N',Ar x
 | [],k,N,A,N',A',hP,hN,h=>by have h:(N,(none:Option Ft3),A)=(N',none,A'):=h;injection h with e1 e2;subst e1;exact hN
 | r :: rs,k,N,A,N',A',hP,hN,h=>by
  unfold ruF at h
  cases hy:P (k:Int) r.2 N with
  | mk N1 q =>
   cases q with
   | mk F n =>
    rw [hy] at h
    cases F with
    | some f =>
     have h:(N1,(some f:Option Ft3),A ++ [⟨mod,r.1,n⟩])=(N',none,A'):=h;injection h with _ e2;injection e2 with e3 _
     cases e3
    | none =>
     obtain ⟨E,h1,h2⟩:=hP r (List.mem_cons_self ..) k N N1 n hy;refine ruF_ar rs (k + 1) N1 (A ++ [⟨mod,r.1,n⟩]) N' A' (fun z hz=>hP z (List.mem_cons_of_mem _ hz)) (fun x hx=>?_) h;rw [h1] at hx;rcases List.mem_append.1 hx with hx | hx
     · exact hN x hx
     · exact h2 x hx
theorem mdF_ar {P:Nat->Int->Ex->List Nj->Pt} (hP:∀ i k e N N' n,Ax 53 e->P i k e N=(N',none,n)->∃ E,N'=N ++ E/\∀ x ∈ E,Ar x):∀ (l:List Md) (i:Nat) (s s':Sj),(∀ m ∈ l,rgtM m=true/\Wel m) →
  (∀ x ∈ s.ns,Ar x)->mdF P l i s=(s',none)->∀ x ∈ s'.ns,Ar x
 | [],i,s,s',hl,hg,h=>by have h:(s,(none:Option Ft3))=(s',none):=h;injection h with e1 _;subst e1;exact hg
 | m :: r,i,s,s',hl,hg,h=>by
  obtain ⟨hr,hwl⟩:=hl m (List.mem_cons_self ..);unfold rgtM at hr;simp only [Bool.and_eq_true] at hr;have hw:m.wet=true->Ax 53 m.wa:=fun hwet=>by have h1:=hr.1.1.2;rw [hwet,Bool.not_true,Bool.false_or] at h1;unfold rightX at h1;rw [Bool.and_eq_true] at h1;exact ⟨h1.2,hwl.wa.1⟩
  have hru0:∀ y ∈ m.ru,Ax 53 y.2:=fun y hy=>by have h1:=List.all_eq_true.1 hr.1.2 y hy;unfold rightX at h1;rw [Bool.and_eq_true] at h1;exact ⟨h1.2,(hwl.bo y hy).1⟩
  unfold mdF at h
  cases hwa:waF (P i) m s.ns with
  | mk N1 q =>
   cases q with
   | mk F wt =>
    rw [hwa] at h
    cases F with
    | some f=>injection h with _ e2;cases e2
    | none =>
     have g1:∀ x ∈ N1,Ar x:=by
      unfold waF at hwa;by_cases hwet:m.wet=true
      ·
       rw [if_pos hwet] at hwa
       cases hp:P i (-1) m.wa s.ns with
       | mk N2 q2 =>
        cases q2 with
        | mk F2 n2 =>
         rw [hp] at hwa;have hwa:(N2,F2,(n2:Int))=(N1,none,wt):=hwa;injection hwa with e1 e2;injection e2 with e3 _;subst e1;subst e3;obtain ⟨E,h1,h2⟩:=hP i (-1) m.wa s.ns N2 n2 (hw hwet) hp;intro x hx;rw [h1] at hx;rcases List.mem_append.1 hx with hx | hx
         · exact hg x hx
         · exact h2 x hx
      · rw [if_neg hwet] at hwa;injection hwa with e1 _;subst e1;exact hg
     have h:(match ruF (P i) i m.ru 0 N1 s.hs with
      | (N2,some f,A)=>((⟨s.ms ++ [m.nm],N2,A,s.ws ++ [wt]⟩:Sj),some f)
      | (N2,none,A)=>mdF P r (i + 1) ⟨s.ms ++ [m.nm],N2,A,s.ws ++ [wt]⟩)=(s',none):=h
     cases hru:ruF (P i) i m.ru 0 N1 s.hs with
     | mk N2 q2 =>
      cases q2 with
      | mk F2 A =>
       rw [hru] at h
       cases F2 with
       | some f=>injection h with _ e2;cases e2
       | none =>
        have g2:=ruF_ar m.ru 0 N1 s.hs N2 A (fun y hy k N N' n hq=>hP i k y.2 N N' n (hru0 y hy) hq) g1 hru;exact mdF_ar hP r (i + 1) ⟨s.ms ++ [m.nm],N2,A,s.ws ++ [wt]⟩ s' (fun y hy=>hl y (List.mem_cons_of_mem _ hy)) g2 h
theorem orF_no2 {a b:Option Ft3} (h:orF a b=none):a=none/\b=none:=by
 cases a with
 | some f=>cases h
 | none=>exact ⟨rfl,h⟩
theorem imF_none (ML:List Md) (i:Nat):∀ (l:List ByteArray) (F:Option Ft3),imF ML i l F=none->F=none
 | [],F,h=>h
 | x :: r,F,h=>by
  unfold imF at h;have:=imF_none ML i r _ h;split at this
  · exact (orF_no2 this).1
  · exact this
theorem hd2_none (ML:List Md):∀ (l:List Md) (i:Nat) (F:Option Ft3),hd2 ML l i F=none->F=none
 | [],i,F,h=>h
 | m :: r,i,F,h=>by unfold hd2 at h;exact imF_none ML i m.im F (hd2_none ML r (i + 1) _ h)
theorem hd1_none (ML:List Md):∀ (l:List Md) (i s:Nat) (F:Option Ft3),hd1 ML l i s F=none->F=none/\∀ m ∈ l,rgtM m=true
 | [],i,s,F,h=>⟨h,fun m hm=>(by cases hm)⟩
 | m :: r,i,s,F,h=>by
  unfold hd1 at h;obtain ⟨h1,h2⟩:=hd1_none ML r (i + 1) _ _ h;obtain ⟨h3,h4⟩:=orF_no2 (orF_no2 h1).1;refine ⟨h3,fun y hy=>?_⟩;rcases List.mem_cons.1 hy with rfl | hy
  ·
   unfold hdE at h4;by_cases hi:4<=i
   · rw [if_pos hi] at h4;cases h4
   ·
    rw [if_neg hi] at h4;by_cases hr:rgtM y=false
    · rw [if_pos hr] at h4;cases h4
    · simpa using hr
  · exact h2 y hy
theorem join_ar {ML:List Md} {s:ByteArray} {gr:Gj} (hwl:∀ m ∈ ML,Wel m) (h:joinO ML s=.ok gr):∀ x ∈ gr.ns,Ar x:=by
 unfold joinO at h
 cases h1:hdO ML with
 | some f=>rw [h1] at h;cases h
 | none =>
  rw [h1] at h
  cases h2:mdO ML with
  | mk g F =>
   rw [h2] at h
   cases F with
   | some f=>cases h
   | none =>
    cases h3:startO ML (fstL ML 0) s with
    | none=>rw [h3] at h;cases h
    | some st =>
     rw [h3] at h;have h:(Except.ok (⟨g.ms,g.ns,g.hs,g.ws,st⟩:Gj):Except Ft3 Gj)=.ok gr:=h;injection h with e;subst e;exact mdF_ar (fun i k e N N' n hf hq=>put_ar 53 e N N' n hf hq) ML 0 ⟨[],[],[],[]⟩ g (fun m hm=>⟨(hd1_none ML ML 0 0 none (hd2_none ML ML 0 _ h1)).2 m hm,hwl m hm⟩) (fun x hx=>(by cases hx)) h2
theorem jnd_ar {l:List ByteArray} {s:ByteArray} {gr:Gj} (h:jndO l s=some gr):∀ x ∈ gr.ns,Ar x:=by
 unfold jndO at h
 cases h1:prsO l with
 | none=>rw [h1] at h;cases h
 | some ML =>
  rw [h1] at h;have h:(if 50 < s.size then none else exO2 (joinO ML s))=some gr:=h;by_cases hs:50 < s.size
  · rw [if_pos hs] at h;cases h
  ·
   rw [if_neg hs] at h
   cases hj:joinO ML s with
   | error f=>rw [hj] at h;cases h
   | ok g =>
    rw [hj] at h;have h:some g=some gr:=h;injection h with e;subst e;exact join_ar (prsO_wel h1) hj
def MonoB (R:(Nat->Bool)->Nat->Bool):Prop:=∀ (M M':Nat->Bool),(∀ n,M n=true->M' n=true)->∀ n,R M n=true->R M' n=true
theorem any_monoB {M M':Nat->Bool} (h:∀ n,M n=true->M' n=true) {L:List Nat} (hl:L.any M=true):L.any M'=true:=by rw [List.any_eq_true] at hl ⊢;obtain ⟨x,hx,hm⟩:=hl;exact ⟨x,hx,h x hm⟩
theorem passB_sound {R:(Nat->Bool)->Nat->Bool} (hR:MonoB R):∀ (k n:Nat) (M:Nat->Bool) (z:Bool),(∀ j,M j=true->R M j=true)->∀ j,(passB R k n M z).1 j=true->R (passB R k n M z).1 j=true
 | 0,n,M,z,h=>h
 | k + 1,n,M,z,h=>by
  unfold passB;split
  ·
   next hc =>
   rw [Bool.and_eq_true] at hc;refine passB_sound hR k (n + 1) (setB M n) true fun j hj=>?_;have hle:∀ i,M i=true->setB M n i=true:=fun i hi=>(by unfold setB;split;rfl;exact hi);by_cases e:j=n
   · subst e;exact hR M _ hle j hc.2
   · refine hR M _ hle j (h j ?_);unfold setB at hj;rwa [if_neg e] at hj
  · exact passB_sound hR k (n + 1) M z h
theorem passB_true {R:(Nat->Bool)->Nat->Bool}:∀ (k n:Nat) (M:Nat->Bool),(passB R k n M true).2=true
 | 0,n,M=>rfl
 | k + 1,n,M=>by
  unfold passB;split
  · exact passB_true k (n + 1) _
  · exact passB_true k (n + 1) _
theorem passB_end {R:(Nat->Bool)->Nat->Bool}:∀ (k n:Nat) (M:Nat->Bool),(passB R k n M false).2=false->(passB R k n M false).1=M/\∀ j,n<=j->j < n + k->(!M j && R M j)=false
 | 0,n,M,_=>⟨rfl,fun j h1 h2=>by omega⟩
 | k + 1,n,M,h=>by
  unfold passB at h ⊢;by_cases hc:(!M n && R M n)=true
  ·
   rw [if_pos hc] at h;rw [passB_true] at h
   cases h
  ·
   rw [if_neg hc] at h ⊢;obtain ⟨h1,h2⟩:=passB_end k (n + 1) M h;refine ⟨h1,fun j hj1 hj2=>?_⟩;by_cases e:j=n
   · subst e;exact Bool.eq_false_iff.2 hc
   · exact h2 j (by omega) (by omega)
theorem passB_lack {R:(Nat->Bool)->Nat->Bool} (N:Nat):∀ (k n:Nat) (M:Nat->Bool) (z:Bool),n + k<=N->lackB (passB R k n M z).1 N<=lackB M N/\(z=false->(passB R k n M z).2=true->lackB (passB R k n M z).1 N < lackB M N)
 | 0,n,M,z,_=>⟨Nat.le_refl _,fun h1 h2=>by
  have h2:z=true:=h2
  rw [h1] at h2;cases h2⟩
 | k + 1,n,M,z,hk=>by
  unfold passB;by_cases hc:(!M n && R M n)=true
  · rw [if_pos hc];rw [Bool.and_eq_true] at hc;have hm:M n=false:=(by simpa using hc.1);have h1:=(passB_lack (R:=R) N k (n + 1) (setB M n) true (by omega)).1;have h2:=lackB_set M n hm N;have h3:=lackB_one M n hm N (by omega);rw [if_pos (show n < N by omega)] at h2;exact ⟨by omega,fun _ _=>by omega⟩
  · rw [if_neg hc];exact passB_lack N k (n + 1) M z (by omega)
theorem leastB_end {R:(Nat->Bool)->Nat->Bool} (hR:MonoB R) (N:Nat):∀ (f:Nat) (M:Nat->Bool),lackB M N < f->(∀ j,M j=true->R M j=true) →
  (∀ j,leastB R N f M j=true->R (leastB R N f M) j=true)/\∀ j,j < N->R (leastB R N f M) j=true->leastB R N f M j=true
 | 0,M,h,_=>by omega
 | f + 1,M,h,hs=>by
  unfold leastB;have h1:=passB_sound hR N 0 M false hs;have h2:=passB_lack (R:=R) N N 0 M false (by omega);have h3:=passB_end (R:=R) N 0 M
  cases hp:passB R N 0 M false with
  | mk M1 z =>
   rw [hp] at h1 h2 h3
   cases z with
   | true =>
    have:=h2.2 rfl rfl;exact leastB_end hR N f M1 (by show lackB M1 N < f;have h5:lackB M1 N < lackB M N:=this;omega) h1
   | false =>
    obtain ⟨h4,h5⟩:=h3 rfl;have h4:M1=M:=h4;subst h4;refine ⟨h1,fun j hj hr=>?_⟩;have:=h5 j (Nat.zero_le _) (by omega);rw [hr,Bool.and_true] at this;simpa using this
def kidsOf (l:List Nj):List Nat:=l.flatMap (fun x=>x.ks)
theorem kidsOf_app (a b:List Nj):kidsOf (a ++ b)=kidsOf a ++ kidsOf b:=List.flatMap_append ..
theorem kidsOf_cons (x:Nj) (b:List Nj):kidsOf (x :: b)=x.ks ++ kidsOf b:=rfl
def TrE (b:Nat) (E:List Nj):Prop:=0 < E.length/\(kidsOf E).Nodup/\∀ k ∈ kidsOf E,b < k/\k < b + E.length
theorem nodup_app {a b:List Nat} {m:Nat} (ha:a.Nodup) (hb:b.Nodup) (h1:∀ x ∈ a,x < m) (h2:∀ x ∈ b,m<=x):(a ++ b).Nodup :=
 List.nodup_append.2 ⟨ha,hb,fun x hx y hy e=>by have:=h1 x hx;have:=h2 y hy;omega⟩
theorem kidsF_tr {P:Ex->List Nj->Pt}:∀ (K:List Ex) (N:List Nj) (ks:List Nat) (N':List Nj) (ks':List Nat),(∀ y ∈ K,∀ N N' n,P y N=(N',none,n)->n=N.length/\∃ E,N'=N ++ E/\TrE N.length E) →
  kidsF P K N ks=(N',none,ks')->∃ E rs,N'=N ++ E/\ks'=ks ++ rs/\(rs ++ kidsOf E).Nodup/\∀ k ∈ rs ++ kidsOf E,N.length<=k/\k < N.length + E.length
 | [],N,ks,N',ks',hP,h=>by have h:(N,(none:Option Ft3),ks)=(N',none,ks'):=h;injection h with e1 e2;injection e2 with _ e3;subst e1;subst e3;exact ⟨[],[],by simp,by simp,by simp [kidsOf],fun k hk=>by simp [kidsOf] at hk⟩
 | y :: r,N,ks,N',ks',hP,h=>by
  unfold kidsF at h
  cases hy:P y N with
  | mk N1 q =>
   cases q with
   | mk F n =>
    rw [hy] at h
    cases F with
    | some f =>
     have h:(N1,(some f:Option Ft3),ks ++ [n])=(N',none,ks'):=h;injection h with _ e2;injection e2 with e3 _
     cases e3
    | none =>
     obtain ⟨hn,E1,h1,h0,h2,h3⟩:=hP y (List.mem_cons_self ..) N N1 n hy;obtain ⟨E2,rs,h4,h5,h6,h7⟩:=kidsF_tr r N1 (ks ++ [n]) N' ks' (fun z hz=>hP z (List.mem_cons_of_mem _ hz)) h;have hl:N1.length=N.length + E1.length:=(by rw [h1,List.length_append]);rw [hl] at h7;refine ⟨E1 ++ E2,n :: rs,by rw [h4,h1,List.append_assoc],by rw [h5,List.append_assoc];rfl,?_,fun k hk=>?_⟩
     ·
      rw [kidsOf_app];have hp:(n :: rs ++ (kidsOf E1 ++ kidsOf E2)).Perm ((n :: kidsOf E1) ++ (rs ++ kidsOf E2)):=(by show (n :: (rs ++ (kidsOf E1 ++ kidsOf E2))).Perm (n :: (kidsOf E1 ++ (rs ++ kidsOf E2)));refine List.Perm.cons n ?_;rw [<- List.append_assoc,<- List.append_assoc];exact List.Perm.append_right _ List.perm_append_comm);refine hp.nodup_iff.2 (nodup_app (m:=N.length + E1.length) (List.nodup_cons.2 ⟨fun hm=>?_,h2⟩) h6 (fun x hx=>?_) (fun x hx=>(h7 x hx).1))
      · have:=(h3 n hm).1;omega
      ·
       rcases List.mem_cons.1 hx with rfl | hx
       · omega
       · exact (h3 x hx).2
     ·
      rw [List.length_append];rw [kidsOf_app] at hk;have hk:k=n\/k ∈ kidsOf E1\/k ∈ rs ++ kidsOf E2:=(by simp only [List.cons_append,List.mem_cons,List.mem_append] at hk ⊢;rcases hk with h | h | h | h <;> simp [h]);rcases hk with rfl | hk | hk
      · omega
      · have:=h3 k hk;omega
      · have:=h7 k hk;omega
theorem put_tr {ML:List Md} {mod:Nat} {ru:Int}:∀ (d:Nat) (e:Ex) (N N':List Nj) (n:Nat),Ax d e->putN ML (fstL ML 0) mod ru d e N=(N',none,n)->n=N.length/\∃ E,N'=N ++ E/\TrE N.length E
 | 0,e,N,N',n,hf,_=>by cases hf.1
 | d + 1,e,N,N',n,hf,h=>by
  obtain ⟨hf,htx⟩:=hf;rw [allX_succ,Bool.and_eq_true,List.all_eq_true] at hf;unfold putN at h;by_cases hN:160<=N.length
  ·
   rw [if_pos hN] at h;injection h with _ e2;injection e2 with e3 _
   cases e3
  ·
   rw [if_neg hN] at h
   cases ht:toO ML (fstL ML 0) mod e with
   | none =>
    rw [ht] at h;injection h with _ e2;injection e2 with e3 _
    cases e3
   | some tt =>
    rw [ht] at h;have h:endK N.length (kidsF (putN ML (fstL ML 0) mod ru d) e.kids (N ++ [nodeJ e [] tt mod ru]) [])=(N',none,n):=h
    cases hk:kidsF (putN ML (fstL ML 0) mod ru d) e.kids (N ++ [nodeJ e [] tt mod ru]) [] with
    | mk N1 q =>
     cases q with
     | mk F ks =>
      rw [hk] at h
      cases F with
      | some f =>
       have h:(N1,(some f:Option Ft3),N.length)=(N',none,n):=h;injection h with _ e2;injection e2 with e3 _
       cases e3
      | none =>
       have h:(setK N1 N.length ks,(none:Option Ft3),N.length)=(N',none,n):=h;injection h with e1 e2;injection e2 with _ e3;obtain ⟨E,rs,h1,h2,h3,h4⟩:=kidsF_tr e.kids _ [] N1 ks (fun y hy M M' k hq=>put_tr d y M M' k ⟨hf.2 y hy,htx.kid hy⟩ hq) hk;rw [h1,List.append_assoc,List.singleton_append,setK_mid] at e1;have h2:ks=rs:=h2;subst h2;refine ⟨e3.symm,_,e1.symm,by simp,?_,fun k hk=>?_⟩
       · rw [kidsOf_cons];exact h3
       · rw [kidsOf_cons] at hk;have:=h4 k hk;rw [List.length_append,List.length_singleton] at this;rw [List.length_cons];omega
def TrG (N:List Nj) (A:List Hj):Prop:=(A.map (fun h=>h.bo) ++ kidsOf N).Nodup/\∀ k ∈ A.map (fun h=>h.bo) ++ kidsOf N,k < N.length
theorem TrG.more {N:List Nj} {A:List Hj} (h:TrG N A) {E:List Nj} (hE:TrE N.length E):TrG (N ++ E) A:=by
 obtain ⟨h0,h2,h3⟩:=hE;refine ⟨?_,fun k hk=>?_⟩
 · rw [kidsOf_app,<- List.append_assoc];exact nodup_app (m:=N.length) h.1 h2 h.2 (fun x hx=>by have:=h3 x hx;omega)
 ·
  rw [kidsOf_app,<- List.append_assoc] at hk;rw [List.length_append];rcases List.mem_append.1 hk with hk | hk
  · have:=h.2 k hk;omega
  · have:=h3 k hk;omega
theorem TrG.rule {N:List Nj} {A:List Hj} (h:TrG N A) {E:List Nj} (hE:TrE N.length E) (x:Hj) (hx:x.bo=N.length):TrG (N ++ E) (A ++ [x]):=by
 obtain ⟨h0,h2,h3⟩:=hE;have hp:((A ++ [x]).map (fun h=>h.bo) ++ kidsOf (N ++ E)).Perm ((A.map (fun h=>h.bo) ++ kidsOf N) ++ (N.length :: kidsOf E)):=by rw [List.map_append,kidsOf_app,List.map_singleton,hx];rw [List.append_assoc,List.append_assoc];refine List.Perm.append_left _ ?_;show (N.length :: (kidsOf N ++ kidsOf E)).Perm (kidsOf N ++ N.length :: kidsOf E);exact List.perm_middle.symm
 refine ⟨hp.nodup_iff.2 (nodup_app (m:=N.length) h.1 (List.nodup_cons.2 ⟨fun hm=>?_,h2⟩) h.2 (fun y hy=>?_)),fun k hk=>?_⟩
 · have:=(h3 _ hm).1;omega
 ·
  rcases List.mem_cons.1 hy with rfl | hy
  · exact Nat.le_refl _
  · have:=h3 y hy;omega
 ·
  have hk:=hp.mem_iff.1 hk;rw [List.length_append];rcases List.mem_append.1 hk with hk | hk
  · have:=h.2 k hk;omega
  ·
   rcases List.mem_cons.1 hk with rfl | hk
   · omega
   · have:=h3 k hk;omega
theorem ruF_tr {mod:Nat} {P:Int->Ex->List Nj->Pt}:∀ (rs:List (ByteArray × Ex)) (k:Nat) (N:List Nj) (A:List Hj) (N':List Nj) (A':List Hj),(∀ r ∈ rs,∀ i N N' n,P i r.2 N=(N',none,n)->n=N.length/\∃ E,N'=N ++ E/\TrE N.length E) →
  TrG N A->ruF P mod rs k N A=(N',none,A')->TrG N' A'
 | [],k,N,A,N',A',hP,hN,h=>by have h:(N,(none:Option Ft3),A)=(N',none,A'):=h;injection h with e1 e2;injection e2 with _ e3;subst e1;subst e3;exact hN
 | r :: rs,k,N,A,N',A',hP,hN,h=>by
  unfold ruF at h
  cases hy:P (k:Int) r.2 N with
  | mk N1 q =>
   cases q with
   | mk F n =>
    rw [hy] at h
    cases F with
    | some f =>
     have h:(N1,(some f:Option Ft3),A ++ [⟨mod,r.1,n⟩])=(N',none,A'):=h;injection h with _ e2;injection e2 with e3 _
     cases e3
    | none =>
     obtain ⟨hn,E,h1,h2⟩:=hP r (List.mem_cons_self ..) k N N1 n hy;refine ruF_tr rs (k + 1) N1 (A ++ [⟨mod,r.1,n⟩]) N' A' (fun z hz=>hP z (List.mem_cons_of_mem _ hz)) ?_ h;rw [h1];exact hN.rule h2 _ hn
theorem mdF_tr {P:Nat->Int->Ex->List Nj->Pt} (hP:∀ i k e N N' n,Ax 53 e->P i k e N=(N',none,n)->n=N.length/\∃ E,N'=N ++ E/\TrE N.length E):∀ (l:List Md) (i:Nat) (s s':Sj),(∀ m ∈ l,rgtM m=true/\Wel m) →
  TrG s.ns s.hs->mdF P l i s=(s',none)->TrG s'.ns s'.hs
 | [],i,s,s',hl,hg,h=>by have h:(s,(none:Option Ft3))=(s',none):=h;injection h with e1 _;subst e1;exact hg
 | m :: r,i,s,s',hl,hg,h=>by
  obtain ⟨hr,hwl⟩:=hl m (List.mem_cons_self ..);unfold rgtM at hr;simp only [Bool.and_eq_true] at hr;have hw:m.wet=true->Ax 53 m.wa:=fun hwet=>by have h1:=hr.1.1.2;rw [hwet,Bool.not_true,Bool.false_or] at h1;unfold rightX at h1;rw [Bool.and_eq_true] at h1;exact ⟨h1.2,hwl.wa.1⟩
  have hru0:∀ y ∈ m.ru,Ax 53 y.2:=fun y hy=>by have h1:=List.all_eq_true.1 hr.1.2 y hy;unfold rightX at h1;rw [Bool.and_eq_true] at h1;exact ⟨h1.2,(hwl.bo y hy).1⟩
  unfold mdF at h
  cases hwa:waF (P i) m s.ns with
  | mk N1 q =>
   cases q with
   | mk F wt =>
    rw [hwa] at h
    cases F with
    | some f=>injection h with _ e2;cases e2
    | none =>
     have g1:TrG N1 s.hs:=by
      unfold waF at hwa;by_cases hwet:m.wet=true
      ·
       rw [if_pos hwet] at hwa
       cases hp:P i (-1) m.wa s.ns with
       | mk N2 q2 =>
        cases q2 with
        | mk F2 n2 =>
         rw [hp] at hwa;have hwa:(N2,F2,(n2:Int))=(N1,none,wt):=hwa;injection hwa with e1 e2;injection e2 with e3 _;subst e1;subst e3;obtain ⟨hn,E,h1,h2⟩:=hP i (-1) m.wa s.ns N2 n2 (hw hwet) hp;rw [h1];exact hg.more h2
      · rw [if_neg hwet] at hwa;injection hwa with e1 _;subst e1;exact hg
     have h:(match ruF (P i) i m.ru 0 N1 s.hs with
      | (N2,some f,A)=>((⟨s.ms ++ [m.nm],N2,A,s.ws ++ [wt]⟩:Sj),some f)
      | (N2,none,A)=>mdF P r (i + 1) ⟨s.ms ++ [m.nm],N2,A,s.ws ++ [wt]⟩)=(s',none):=h
     cases hru:ruF (P i) i m.ru 0 N1 s.hs with
     | mk N2 q2 =>
      cases q2 with
      | mk F2 A =>
       rw [hru] at h
       cases F2 with
       | some f=>injection h with _ e2;cases e2
       | none =>
        have g2:=ruF_tr m.ru 0 N1 s.hs N2 A (fun y hy k N N' n hq=>hP i k y.2 N N' n (hru0 y hy) hq) g1 hru;exact mdF_tr hP r (i + 1) ⟨s.ms ++ [m.nm],N2,A,s.ws ++ [wt]⟩ s' (fun y hy=>hl y (List.mem_cons_of_mem _ hy)) g2 h
theorem join_tr {ML:List Md} {s:ByteArray} {gr:Gj} (hwl:∀ m ∈ ML,Wel m) (h:joinO ML s=.ok gr):TrG gr.ns gr.hs:=by
 unfold joinO at h
 cases h1:hdO ML with
 | some f=>rw [h1] at h;cases h
 | none =>
  rw [h1] at h
  cases h2:mdO ML with
  | mk g F =>
   rw [h2] at h
   cases F with
   | some f=>cases h
   | none =>
    cases h3:startO ML (fstL ML 0) s with
    | none=>rw [h3] at h;cases h
    | some st =>
     rw [h3] at h;have h:(Except.ok (⟨g.ms,g.ns,g.hs,g.ws,st⟩:Gj):Except Ft3 Gj)=.ok gr:=h;injection h with e;subst e;exact mdF_tr (fun i k e N N' n hf hq=>put_tr 53 e N N' n hf hq) ML 0 ⟨[],[],[],[]⟩ g (fun m hm=>⟨(hd1_none ML ML 0 0 none (hd2_none ML ML 0 _ h1)).2 m hm,hwl m hm⟩) ⟨by simp [kidsOf],fun k hk=>by simp [kidsOf] at hk⟩ h2
theorem jnd_tr {l:List ByteArray} {s:ByteArray} {gr:Gj} (h:jndO l s=some gr):TrG gr.ns gr.hs:=by
 unfold jndO at h
 cases h1:prsO l with
 | none=>rw [h1] at h;cases h
 | some ML =>
  rw [h1] at h;have h:(if 50 < s.size then none else exO2 (joinO ML s))=some gr:=h;by_cases hs:50 < s.size
  · rw [if_pos hs] at h;cases h
  ·
   rw [if_neg hs] at h
   cases hj:joinO ML s with
   | error f=>rw [hj] at h;cases h
   | ok g =>
    rw [hj] at h;have h:some g=some gr:=h;injection h with e;subst e;exact join_tr (prsO_wel h1) hj
end Go.Proofs.Ythddifjhoniacaa
