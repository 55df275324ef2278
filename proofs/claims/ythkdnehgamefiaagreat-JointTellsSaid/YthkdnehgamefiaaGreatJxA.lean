import Derived.Test.YthkdnehgamefiaaGreatJz
namespace Go.Proofs.YthkdnehgamefiaaGreat
set_option linter.unusedVariables false
open Go.RowKit Go.Sort
def LayK (L:Nat->Ex->List Nj->Prop):Nat->List Ex->List Nat->List Nj->Prop
 | _,[],ks,E=>ks=[]/\E=[]
 | b,y :: r,ks,E=>∃ E1 E2 ks',ks=b :: ks'/\E=E1 ++ E2/\L b y E1/\LayK L (b + E1.length) r ks' E2
def LayE (ML:List Md) (F:List Nat) (mod:Nat) (ru:Int):Nat->Nat->Ex->List Nj->Prop
 | 0,_,_,_=>False
 | d + 1,b,e,E=>∃ tt ks E',toO ML F mod e=some tt/\E=sW e ks tt mod ru :: E'/\LayK (LayE ML F mod ru d) (b + 1) e.kids ks E'
theorem setK_at (N E:List Nj) (x:Nj) (ks:List Nat):Cv (N ++ x :: E) N.length ks=N ++ { x with ks:=ks } :: E:=by
 unfold Cv
 induction N with
 | nil=>rfl
 | cons y r ih =>
  show y :: (r ++ x :: E).modify r.length _=y :: (r ++ _);rw [ih]
theorem kidsF_lay {P:Ex->List Nj->Pt} {L:Nat->Ex->List Nj->Prop}:∀ (K:List Ex) (N:List Nj) (ks:List Nat) (N':List Nj) (ks':List Nat),(∀ y ∈ K,∀ N N' n,P y N=(N',none,n)->n=N.length/\∃ E,N'=N ++ E/\L N.length y E) →
  kV P K N ks=(N',none,ks')->∃ E rs,N'=N ++ E/\ks'=ks ++ rs/\LayK L N.length K rs E
 | [],N,ks,N',ks',hP,h=>by have h:(N,(none:Option Ft3),ks)=(N',none,ks'):=h;injection h with e1 e2;injection e2 with _ e3;subst e1;subst e3;exact ⟨[],[],by simp,by simp,rfl,rfl⟩
 | y :: r,N,ks,N',ks',hP,h=>by
  unfold kV at h
  cases hy:P y N with
  | mk N1 q =>
   cases q with
   | mk F n =>
    rw [hy] at h
    cases F with
    | some f =>
     have h:(N1,(some f:Option Ft3),ks ++ [n])=(N',none,ks'):=h;injection h with _ e2;injection e2 with e3 _
     cases e3
    | none =>
     obtain ⟨hn,E1,h1,h2⟩:=hP y (List.mem_cons_self ..) N N1 n hy;obtain ⟨E2,rs,h4,h5,h6⟩:=kidsF_lay r N1 (ks ++ [n]) N' ks' (fun z hz=>hP z (List.mem_cons_of_mem _ hz)) h;have hl:N1.length=N.length + E1.length:=(by rw [h1,List.length_append]);rw [hl] at h6;subst hn;exact ⟨E1 ++ E2,N.length :: rs,by rw [h4,h1,List.append_assoc],by rw [h5,List.append_assoc];rfl,E1,E2,rs,rfl,rfl,h2,h6⟩
theorem layK_end {L:Nat->Ex->List Nj->Prop} {B:Nat} (hL:∀ y b E,L b y E->b + E.length<=B):∀ (K:List Ex) (b:Nat) (ks:List Nat) (E:List Nj),b<=B->LayK L b K ks E->b + E.length<=B
 | [],b,ks,E,hb,h=>by rw [h.2];exact hb
 | y :: r,b,ks,E,hb,h=>by obtain ⟨E1,E2,ks',h1,h2,h3,h4⟩:=h;have:=layK_end hL r _ _ _ (hL _ _ _ h3) h4;rw [h2,List.length_append];omega
theorem layK_cut {L L':Nat->Ex->List Nj->Prop}:∀ (K:List Ex) (b:Nat) (ks:List Nat) (E:List Nj),(∀ y ∈ K,∀ b E,L b y E->L' b y E)->LayK L b K ks E->LayK L' b K ks E
 | [],b,ks,E,_,h=>h
 | y :: r,b,ks,E,hL,h=>by obtain ⟨E1,E2,ks',h1,h2,h3,h4⟩:=h;exact ⟨E1,E2,ks',h1,h2,hL y (List.mem_cons_self ..) _ _ h3,layK_cut r _ _ _ (fun z hz=>hL z (List.mem_cons_of_mem _ hz)) h4⟩
theorem put_lay {ML:List Md} {F:List Nat} {mod:Nat} {ru:Int}:∀ (d:Nat) (e:Ex) (N N':List Nj) (n:Nat),gQ d e=true->uS ML F mod ru d e N=(N',none,n)->n=N.length/\∃ E,N'=N ++ E/\LayE ML F mod ru d N.length e E/\N.length + E.length<=160
 | 0,e,N,N',n,hf,_=>by cases hf
 | d + 1,e,N,N',n,hf,h=>by
  rw [jN,Bool.and_eq_true,List.all_eq_true] at hf;unfold uS at h;by_cases hN:160<=N.length
  ·
   rw [if_pos hN] at h;injection h with _ e2;injection e2 with e3 _
   cases e3
  ·
   rw [if_neg hN] at h
   cases ht:toO ML F mod e with
   | none =>
    rw [ht] at h;injection h with _ e2;injection e2 with e3 _
    cases e3
   | some tt =>
    rw [ht] at h;have h:AY N.length (kV (uS ML F mod ru d) e.kids (N ++ [sW e [] tt mod ru]) [])=(N',none,n):=h
    cases hk:kV (uS ML F mod ru d) e.kids (N ++ [sW e [] tt mod ru]) [] with
    | mk N1 q =>
     cases q with
     | mk F1 ks =>
      rw [hk] at h
      cases F1 with
      | some f =>
       have h:(N1,(some f:Option Ft3),N.length)=(N',none,n):=h;injection h with _ e2;injection e2 with e3 _
       cases e3
      | none =>
       have h:(Cv N1 N.length ks,(none:Option Ft3),N.length)=(N',none,n):=h;injection h with e1 e2;injection e2 with _ e3;obtain ⟨E,rs,h1,h2,h3⟩:=kidsF_lay (L:=fun b y E=>LayE ML F mod ru d b y E/\b + E.length<=160) e.kids _ [] N1 ks (fun y hy M M' k hq=>put_lay d y M M' k (hf.2 y hy) hq) hk;rw [h1,List.append_assoc,List.singleton_append,setK_at] at e1;have h2:ks=rs:=h2;subst h2;rw [List.length_append,List.length_singleton] at h3;have h4:=layK_end (B:=160) (fun y b E h=>h.2) e.kids _ _ _ (by omega) h3;exact ⟨e3.symm,_,e1.symm,⟨tt,ks,E,ht,rfl,layK_cut e.kids _ _ _ (fun y _ b E h=>h.1) h3⟩,by rw [List.length_cons];omega⟩
theorem layK_len {L:Nat->Ex->List Nj->Prop} {g:Ex->Int}:∀ (K:List Ex) (b:Nat) (ks:List Nat) (E:List Nj) (a:Int),(∀ y ∈ K,∀ b E,L b y E->(E.length:Int)=g y)->LayK L b K ks E->K.foldl (fun m y=>m + g y) a=a + E.length
 | [],b,ks,E,a,_,h=>by rw [h.2];simp
 | y :: r,b,ks,E,a,hL,h=>by obtain ⟨E1,E2,ks',h1,h2,h3,h4⟩:=h;rw [List.foldl_cons,layK_len r _ _ _ _ (fun z hz=>hL z (List.mem_cons_of_mem _ hz)) h4,<- hL y (List.mem_cons_self ..) _ _ h3,h2,List.length_append];omega
theorem lay_len {ML:List Md} {F:List Nat} {mod:Nat} {ru:Int}:∀ (d b:Nat) (e:Ex) (E:List Nj),LayE ML F mod ru d b e E->(E.length:Int)=gW d e
 | 0,_,_,_,h=>by cases h
 | d + 1,b,e,E,h=>by obtain ⟨tt,ks,E',h1,h2,h3⟩:=h;have hs:gW (d + 1) e=e.kids.foldl (fun m y=>m + gW d y) 1:=rfl;rw [hs,layK_len e.kids _ _ _ 1 (fun y _ b E hl=>lay_len d b y E hl) h3,h2,List.length_cons];omega
theorem lay_pos {ML:List Md} {F:List Nat} {mod:Nat} {ru:Int}:∀ {d b:Nat} {e:Ex} {E:List Nj},LayE ML F mod ru d b e E->0 < E.length
 | 0,_,_,_,h=>by cases h
 | d + 1,b,e,E,h=>by obtain ⟨tt,ks,E',h1,h2,h3⟩:=h;rw [h2,List.length_cons];omega
theorem layK_kid {L:Nat->Ex->List Nj->Prop}:∀ (K:List Ex) (b:Nat) (ks:List Nat) (E:List Nj),(∀ y b E,L b y E->0 < E.length)->LayK L b K ks E->∀ k ∈ ks,b<=k/\k < b + E.length
 | [],b,ks,E,_,h=>by rw [h.1];intro k hk;cases hk
 | y :: r,b,ks,E,hL,h=>by
  obtain ⟨E1,E2,ks',h1,h2,h3,h4⟩:=h;have hp:=hL _ _ _ h3;intro k hk;rw [h1] at hk;rw [h2,List.length_append];rcases List.mem_cons.1 hk with rfl | hk
  · omega
  · have:=layK_kid r _ _ _ hL h4 k hk;omega
theorem layK_at {L:Nat->Ex->List Nj->Prop}:∀ (K:List Ex) (b:Nat) (ks:List Nat) (E:List Nj),LayK L b K ks E->∀ i x,E[i]?=some x->∃ y ∈ K,∃ c E1 j,L c y E1/\E1[j]?=some x/\c + j=b + i/\c + E1.length<=b + E.length
 | [],b,ks,E,h=>by rw [h.2];intro i x hx;simp at hx
 | y :: r,b,ks,E,h=>by
  obtain ⟨E1,E2,ks',h1,h2,h3,h4⟩:=h;intro i x hx;rw [h2] at hx ⊢;rw [List.length_append];by_cases hi:i < E1.length
  · rw [List.getElem?_append_left hi] at hx;exact ⟨y,List.mem_cons_self ..,b,E1,i,h3,hx,rfl,by omega⟩
  · rw [List.getElem?_append_right (by omega)] at hx;obtain ⟨z,hz,c,E3,j,h5,h6,h7,h8⟩:=layK_at r _ _ _ h4 (i - E1.length) x hx;exact ⟨z,List.mem_cons_of_mem _ hz,c,E3,j,h5,h6,by omega,by omega⟩
theorem lay_node {ML:List Md} {F:List Nat} {mod:Nat} {ru:Int}:∀ (d b:Nat) (e:Ex) (E:List Nj),LayE ML F mod ru d b e E->∀ i x,E[i]?=some x →
  x.mo=mod/\x.ru=ru/\(∃ y:Ex,toO ML F mod y=some x.tg/\y.op=x.op/\y.text=x.tx)/\∀ k ∈ x.ks,b + i < k/\k < b + E.length
 | 0,_,_,_,h=>by cases h
 | d + 1,b,e,E,h=>by
  obtain ⟨tt,ks,E',h1,h2,h3⟩:=h;intro i x hx;rw [h2] at hx ⊢;rw [List.length_cons]
  cases i with
  | zero =>
   have hx:sW e ks tt mod ru=x:=(by simpa using hx);subst hx;refine ⟨rfl,rfl,⟨e,h1,rfl,rfl⟩,fun k hk=>?_⟩;have:=layK_kid e.kids _ _ _ (fun y b E hl=>lay_pos hl) h3 k hk;omega
  | succ i =>
   have hx:E'[i]?=some x:=(by simpa using hx);obtain ⟨y,hy,c,E1,j,h4,h5,h6,h7⟩:=layK_at e.kids _ _ _ h3 i x hx;obtain ⟨a1,a2,a3,a4⟩:=lay_node d c y E1 h4 j x h5;exact ⟨a1,a2,a3,fun k hk=>by have:=a4 k hk;omega⟩
def Ati {α:Type} (M:List α) (b:Nat) (E:List α):Prop:=∀ (i:Nat) (x:α),E[i]?=some x->M[b + i]?=some x
theorem Ati.left {α:Type} {M E1 E2:List α} {b:Nat} (h:Ati M b (E1 ++ E2)):Ati M b E1:=fun i x hx=>h i x (by rw [List.getElem?_append_left (aS.1 hx).1];exact hx)
theorem Ati.right {α:Type} {M E1 E2:List α} {b:Nat} (h:Ati M b (E1 ++ E2)):Ati M (b + E1.length) E2:=fun i x hx=>by have:=h (E1.length + i) x (by rw [List.getElem?_append_right (by omega),show E1.length + i - E1.length=i from by omega];exact hx);rwa [<- Nat.add_assoc] at this
theorem Ati.tail {α:Type} {M E:List α} {x:α} {b:Nat} (h:Ati M b (x :: E)):Ati M (b + 1) E:=fun i y hy=>by have:=h (i + 1) y (by simpa using hy);rwa [show b + (i + 1)=b + 1 + i from by omega] at this
def LayR (L:Int->Nat->Ex->List Nj->Prop) (mod:Nat):Nat->Nat->List (ByteArray × Ex)->List Hj->List Nj->Prop
 | _,_,[],B,E=>B=[]/\E=[]
 | k,b,r :: rs,B,E=>∃ E1 E2 B',B=⟨mod,r.1,b⟩ :: B'/\E=E1 ++ E2/\L (k:Int) b r.2 E1/\LayR L mod (k + 1) (b + E1.length) rs B' E2
def LayW (L:Nat->Ex->List Nj->Prop) (b:Nat) (m:Md) (wt:Int) (E:List Nj):Prop:=(m.wet=true->wt=(b:Int)/\L b m.wa E)/\(m.wet=false->wt=-1/\E=[])
def LayM (L:Nat->Int->Nat->Ex->List Nj->Prop):Nat->Nat->List Md->List Hj->List Int->List Nj->Prop
 | _,_,[],H,W,E=>H=[]/\W=[]/\E=[]
 | i,b,m :: r,H,W,E=>∃ E0 E1 E2 H1 H2 wt W',H=H1 ++ H2/\W=wt :: W'/\E=E0 ++ (E1 ++ E2)/\LayW (L i (-1)) b m wt E0/\LayR (L i) i 0 (b + E0.length) m.ru H1 E1/\LayM L (i + 1) (b + E0.length + E1.length) r H2 W' E2
theorem ruF_lay {mod:Nat} {P:Int->Ex->List Nj->Pt} {L:Int->Nat->Ex->List Nj->Prop}:∀ (rs:List (ByteArray × Ex)) (k:Nat) (N:List Nj) (A:List Hj) (N':List Nj) (A':List Hj),(∀ r ∈ rs,∀ i N N' n,P i r.2 N=(N',none,n)->n=N.length/\∃ E,N'=N ++ E/\L i N.length r.2 E) →
  ruF P mod rs k N A=(N',none,A')->∃ E B,N'=N ++ E/\A'=A ++ B/\LayR L mod k N.length rs B E
 | [],k,N,A,N',A',hP,h=>by have h:(N,(none:Option Ft3),A)=(N',none,A'):=h;injection h with e1 e2;injection e2 with _ e3;subst e1;subst e3;exact ⟨[],[],by simp,by simp,rfl,rfl⟩
 | r :: rs,k,N,A,N',A',hP,h=>by
  unfold ruF at h
  cases hy:P (k:Int) r.2 N with
  | mk N1 q =>
   cases q with
   | mk F n =>
    rw [hy] at h
    cases F with
    | some f =>
     have h:(N1,(some f:Option Ft3),A ++ [⟨mod,r.1,n⟩])=(N',none,A'):=h;injection h with _ e2;injection e2 with e3 _
     cases e3
    | none =>
     obtain ⟨hn,E1,h1,h2⟩:=hP r (List.mem_cons_self ..) k N N1 n hy;obtain ⟨E2,B,h4,h5,h6⟩:=ruF_lay rs (k + 1) N1 (A ++ [⟨mod,r.1,n⟩]) N' A' (fun z hz=>hP z (List.mem_cons_of_mem _ hz)) h;have hl:N1.length=N.length + E1.length:=(by rw [h1,List.length_append]);rw [hl] at h6;subst hn;exact ⟨E1 ++ E2,⟨mod,r.1,N.length⟩ :: B,by rw [h4,h1,List.append_assoc],by rw [h5,List.append_assoc];rfl,E1,E2,B,rfl,rfl,h2,h6⟩
theorem mdF_lay {P:Nat->Int->Ex->List Nj->Pt} {L:Nat->Int->Nat->Ex->List Nj->Prop} (hP:∀ i k e N N' n,gQ 53 e=true->P i k e N=(N',none,n)->n=N.length/\∃ E,N'=N ++ E/\L i k N.length e E):∀ (l:List Md) (i:Nat) (s s':Sj),(∀ m ∈ l,Qx m=true) →
  mdF P l i s=(s',none)->∃ H W E,s'.ms=s.ms ++ l.map (·.nm)/\s'.ns=s.ns ++ E/\s'.hs=s.hs ++ H/\s'.ws=s.ws ++ W/\LayM L i s.ns.length l H W E
 | [],i,s,s',hl,h=>by have h:(s,(none:Option Ft3))=(s',none):=h;injection h with e1 _;subst e1;exact ⟨[],[],[],by simp,by simp,by simp,by simp,rfl,rfl,rfl⟩
 | m :: r,i,s,s',hl,h=>by
  have hr:=hl m (List.mem_cons_self ..);unfold Qx at hr;simp only [Bool.and_eq_true] at hr;have hw:m.wet=true->gQ 53 m.wa=true:=fun hwet=>by have h1:=hr.1.1.2;rw [hwet,Bool.not_true,Bool.false_or] at h1;unfold dQ at h1;rw [Bool.and_eq_true] at h1;exact h1.2
  have hru0:∀ y ∈ m.ru,gQ 53 y.2=true:=fun y hy=>by have h1:=List.all_eq_true.1 hr.1.2 y hy;unfold dQ at h1;rw [Bool.and_eq_true] at h1;exact h1.2
  unfold mdF at h
  cases hwa:waF (P i) m s.ns with
  | mk N1 q =>
   cases q with
   | mk F wt =>
    rw [hwa] at h
    cases F with
    | some f=>injection h with _ e2;cases e2
    | none =>
     have g1:∃ E0,N1=s.ns ++ E0/\LayW (L i (-1)) s.ns.length m wt E0:=by
      unfold waF at hwa;by_cases hwet:m.wet=true
      ·
       rw [if_pos hwet] at hwa
       cases hp:P i (-1) m.wa s.ns with
       | mk N2 q2 =>
        cases q2 with
        | mk F2 n2 =>
         rw [hp] at hwa;have hwa:(N2,F2,(n2:Int))=(N1,none,wt):=hwa;injection hwa with e1 e2;injection e2 with e3 e4;subst e1;subst e3;obtain ⟨hn,E,h1,h2⟩:=hP i (-1) m.wa s.ns N2 n2 (hw hwet) hp;exact ⟨E,h1,fun _=>⟨by rw [<- e4,hn],h2⟩,fun hf=>by rw [hwet] at hf;cases hf⟩
      · rw [if_neg hwet] at hwa;injection hwa with e1 e2;injection e2 with _ e4;subst e1;exact ⟨[],by simp,fun hf=>absurd hf hwet,fun _=>⟨e4.symm,rfl⟩⟩
     have h:(match ruF (P i) i m.ru 0 N1 s.hs with
      | (N2,some f,A)=>((⟨s.ms ++ [m.nm],N2,A,s.ws ++ [wt]⟩:Sj),some f)
      | (N2,none,A)=>mdF P r (i + 1) ⟨s.ms ++ [m.nm],N2,A,s.ws ++ [wt]⟩)=(s',none):=h
     cases hru:ruF (P i) i m.ru 0 N1 s.hs with
     | mk N2 q2 =>
      cases q2 with
      | mk F2 A =>
       rw [hru] at h
       cases F2 with
       | some f=>injection h with _ e2;cases e2
       | none =>
        obtain ⟨E0,f1,f2⟩:=g1;obtain ⟨E1,B,f3,f4,f5⟩:=ruF_lay (L:=L i) m.ru 0 N1 s.hs N2 A (fun y hy k N N' n hq=>hP i k y.2 N N' n (hru0 y hy) hq) hru;obtain ⟨H,W,E2,f6,f7,f8,f9,fA⟩:=mdF_lay hP r (i + 1) ⟨s.ms ++ [m.nm],N2,A,s.ws ++ [wt]⟩ s' (fun y hy=>hl y (List.mem_cons_of_mem _ hy)) h;have l1:N1.length=s.ns.length + E0.length:=(by rw [f1,List.length_append]);have l2:N2.length=s.ns.length + E0.length + E1.length:=(by rw [f3,List.length_append,l1]);have fA:LayM L (i + 1) N2.length r H W E2:=fA;rw [l2] at fA;rw [l1] at f5;have f7:s'.ns=N2 ++ E2:=f7;have f8:s'.hs=A ++ H:=f8;have f9:s'.ws=(s.ws ++ [wt]) ++ W:=f9;have f6:s'.ms=(s.ms ++ [m.nm]) ++ r.map (·.nm):=f6;exact ⟨B ++ H,wt :: W,E0 ++ (E1 ++ E2),by rw [f6];simp,by rw [f7,f3,f1];simp,by rw [f8,f4];simp,by rw [f9];simp,E0,E1,E2,B,H,wt,W,rfl,rfl,rfl,f2,f5,fA⟩
end Go.Proofs.YthkdnehgamefiaaGreat
