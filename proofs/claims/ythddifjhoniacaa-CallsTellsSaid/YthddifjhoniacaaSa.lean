import Derived.Test.YthddifjhoniacaaMa
import Derived.Test.YthddifjhoniacaaIj
import Derived.Test.YthddifjhoniacaaHv
namespace Go.Proofs.Ythddifjhoniacaa
set_option linter.unusedVariables false
open Go.RowKit Go.Sort
abbrev Nx:=Nat->List Int
abbrev ActN:=Nat × Bool × Nat
def srcN (LD:Nx) (T:Nx) (a:ActN):List Int:=if a.2.1=true then LD a.2.2 else T a.2.2
def setN (T:Nx) (k:Nat) (l:List Int):Nx:=fun j=>if j=k then l else T j
def addN (k:Nat):List Int->Nx × Bool->Nx × Bool
 | [],s=>s
 | x :: r,s=>if x ∈ s.1 k then addN k r s else addN k r (setN s.1 k (putL (s.1 k) x),true)
def actsN (LD:Nx):List ActN->Nx × Bool->Nx × Bool
 | [],s=>s
 | a :: r,s=>actsN LD r (addN a.1 (srcN LD s.1 a) s)
def passN (LD:Nx) (A:Nat->List ActN):Nat->Nat->Nx × Bool->Nx × Bool
 | 0,_,s=>s
 | c + 1,n,s=>passN LD A c (n + 1) (actsN LD (A n) s)
def leastN (LD:Nx) (A:Nat->List ActN) (N:Nat):Nat->Nx->Nx
 | 0,T=>T
 | f + 1,T=>match passN LD A N 0 (T,false) with
  | (T',true)=>leastN LD A N f T'
  | (T',false)=>T'
def leN (T T':Nx):Prop:=∀ k x,x ∈ T k->x ∈ T' k
theorem leN.refl (T:Nx):leN T T:=fun _ _ h=>h
theorem leN.trans {a b c:Nx} (h1:leN a b) (h2:leN b c):leN a c:=fun k x h=>h2 k x (h1 k x h)
theorem leN_set (T:Nx) (k:Nat) (x:Int):leN T (setN T k (putL (T k) x)):=fun j y h=>by
 unfold setN;split
 · next e=>subst e;exact (putL_mem x _ y).2 (.inr h)
 · exact h
theorem srcN_mono {LD T T':Nx} (h:leN T T') (a:ActN) {x:Int} (hx:x ∈ srcN LD T a):x ∈ srcN LD T' a:=by
 unfold srcN at hx ⊢;split
 · next e=>rw [if_pos e] at hx;exact hx
 · next e=>rw [if_neg e] at hx;exact h _ _ hx
theorem addN_le (k:Nat):∀ (l:List Int) (s:Nx × Bool),leN s.1 (addN k l s).1/\(s.2=true->(addN k l s).2=true)
 | [],s=>⟨leN.refl _,fun h=>h⟩
 | x :: r,s=>by
  unfold addN;split
  · exact addN_le k r s
  · obtain ⟨h1,h2⟩:=addN_le k r (setN s.1 k (putL (s.1 k) x),true);exact ⟨(leN_set s.1 k x).trans h1,fun _=>h2 rfl⟩
theorem actsN_le (LD:Nx):∀ (L:List ActN) (s:Nx × Bool),leN s.1 (actsN LD L s).1/\(s.2=true->(actsN LD L s).2=true)
 | [],s=>⟨leN.refl _,fun h=>h⟩
 | a :: r,s=>by obtain ⟨h1,h2⟩:=addN_le a.1 (srcN LD s.1 a) s;obtain ⟨h3,h4⟩:=actsN_le LD r (addN a.1 (srcN LD s.1 a) s);exact ⟨h1.trans h3,fun h=>h4 (h2 h)⟩
theorem passN_le (LD:Nx) (A:Nat->List ActN):∀ (c n:Nat) (s:Nx × Bool),leN s.1 (passN LD A c n s).1/\(s.2=true->(passN LD A c n s).2=true)
 | 0,n,s=>⟨leN.refl _,fun h=>h⟩
 | c + 1,n,s=>by obtain ⟨h1,h2⟩:=actsN_le LD (A n) s;obtain ⟨h3,h4⟩:=passN_le LD A c (n + 1) (actsN LD (A n) s);exact ⟨h1.trans h3,fun h=>h4 (h2 h)⟩
theorem addN_same (k:Nat):∀ (l:List Int) (s:Nx × Bool),(addN k l s).2=false->addN k l s=s/\∀ x ∈ l,x ∈ s.1 k
 | [],s,_=>⟨rfl,fun x hx=>by cases hx⟩
 | x :: r,s,h=>by
  unfold addN at h ⊢;by_cases e:x ∈ s.1 k
  · rw [if_pos e] at h ⊢;obtain ⟨h1,h2⟩:=addN_same k r s h;exact ⟨h1,fun y hy=>by rcases List.mem_cons.1 hy with rfl | hy;exact e;exact h2 y hy⟩
  ·
   rw [if_neg e] at h;rw [(addN_le k r (setN s.1 k (putL (s.1 k) x),true)).2 rfl] at h
   cases h
theorem actsN_same (LD:Nx):∀ (L:List ActN) (s:Nx × Bool),(actsN LD L s).2=false->actsN LD L s=s/\∀ a ∈ L,∀ x ∈ srcN LD s.1 a,x ∈ s.1 a.1
 | [],s,_=>⟨rfl,fun a ha=>by cases ha⟩
 | a :: r,s,h=>by
  have h:(actsN LD r (addN a.1 (srcN LD s.1 a) s)).2=false:=h;have hf:(addN a.1 (srcN LD s.1 a) s).2=false:=by
   cases hb:(addN a.1 (srcN LD s.1 a) s).2 with
   | false=>rfl
   | true=>rw [(actsN_le LD r _).2 hb] at h;cases h
  obtain ⟨h1,h2⟩:=addN_same a.1 _ s hf;have e:actsN LD (a :: r) s=actsN LD r s:=by show actsN LD r (addN a.1 (srcN LD s.1 a) s)=_;rw [h1]
  rw [h1] at h;obtain ⟨h3,h4⟩:=actsN_same LD r s h;exact ⟨e.trans h3,fun b hb=>by rcases List.mem_cons.1 hb with rfl | hb;exact h2;exact h4 b hb⟩
theorem passN_same (LD:Nx) (A:Nat->List ActN):∀ (c n:Nat) (s:Nx × Bool),(passN LD A c n s).2=false->passN LD A c n s=s/\∀ j,n<=j->j < n + c->∀ a ∈ A j,∀ x ∈ srcN LD s.1 a,x ∈ s.1 a.1
 | 0,n,s,_=>⟨rfl,fun j h1 h2=>by omega⟩
 | c + 1,n,s,h=>by
  have h:(passN LD A c (n + 1) (actsN LD (A n) s)).2=false:=h;have hf:(actsN LD (A n) s).2=false:=by
   cases hb:(actsN LD (A n) s).2 with
   | false=>rfl
   | true=>rw [(passN_le LD A c (n + 1) _).2 hb] at h;cases h
  obtain ⟨h1,h2⟩:=actsN_same LD (A n) s hf;have e:passN LD A (c + 1) n s=passN LD A c (n + 1) s:=by show passN LD A c (n + 1) (actsN LD (A n) s)=_;rw [h1]
  rw [h1] at h;obtain ⟨h3,h4⟩:=passN_same LD A c (n + 1) s h;refine ⟨e.trans h3,fun j hj1 hj2=>?_⟩;by_cases ej:j=n
  · subst ej;exact h2
  · exact h4 j (by omega) (by omega)
structure InvN (R:Int->Prop) (LD:Nx) (A:Nat->List ActN) (N:Nat) (T:Nx):Prop where
 ris:∀ k,RisL (T k)
 ok:∀ k,∀ x ∈ T k,R x
 sup:∀ k,∀ x ∈ T k,∃ n a,n < N/\a ∈ A n/\a.1=k/\x ∈ srcN LD T a
theorem InvN.put {R:Int->Prop} {LD:Nx} {A:Nat->List ActN} {N:Nat} {T:Nx} (h:InvN R LD A N T) {k:Nat} {x:Int} (hx:R x) (hs:∃ n a,n < N/\a ∈ A n/\a.1=k/\x ∈ srcN LD T a):InvN R LD A N (setN T k (putL (T k) x)):=by
 have hle:=leN_set T k x;refine ⟨fun j=>?_,fun j y hy=>?_,fun j y hy=>?_⟩
 ·
  unfold setN;split
  · exact (h.ris k).put x
  · exact h.ris j
 ·
  unfold setN at hy;split at hy
  ·
   rcases (putL_mem x _ y).1 hy with rfl | hy
   · exact hx
   · exact h.ok k y hy
  · exact h.ok j y hy
 ·
  have key:y ∈ T j\/(j=k/\y=x):=by
   unfold setN at hy;split at hy
   ·
    next e =>
    rcases (putL_mem x _ y).1 hy with e2 | hy
    · exact .inr ⟨e,e2⟩
    · exact .inl (by rw [e];exact hy)
   · exact .inl hy
  rcases key with hy | ⟨rfl,rfl⟩
  · obtain ⟨n,a,h1,h2,h3,h4⟩:=h.sup j y hy;exact ⟨n,a,h1,h2,h3,srcN_mono hle a h4⟩
  · obtain ⟨n,a,h1,h2,h3,h4⟩:=hs;exact ⟨n,a,h1,h2,h3,srcN_mono hle a h4⟩
theorem addN_inv {R:Int->Prop} {LD:Nx} {A:Nat->List ActN} {N n:Nat} {a:ActN} (hn:n < N) (ha:a ∈ A n):∀ (l:List Int) (s:Nx × Bool),(∀ x ∈ l,R x/\x ∈ srcN LD s.1 a)->InvN R LD A N s.1->InvN R LD A N (addN a.1 l s).1
 | [],s,_,h=>h
 | x :: r,s,hl,h=>by
  unfold addN;split
  · exact addN_inv hn ha r s (fun y hy=>hl y (List.mem_cons_of_mem _ hy)) h
  · obtain ⟨hx,hs⟩:=hl x (List.mem_cons_self ..);refine addN_inv hn ha r _ (fun y hy=>?_) (h.put hx ⟨n,a,hn,ha,rfl,hs⟩);obtain ⟨h1,h2⟩:=hl y (List.mem_cons_of_mem _ hy);exact ⟨h1,srcN_mono (leN_set _ _ _) a h2⟩
theorem srcN_ok {R:Int->Prop} {LD:Nx} {A:Nat->List ActN} {N:Nat} {T:Nx} (hL:∀ j,∀ x ∈ LD j,R x) (h:InvN R LD A N T) (a:ActN):∀ x ∈ srcN LD T a,R x:=fun x hx=>by
 unfold srcN at hx;split at hx
 · exact hL _ x hx
 · exact h.ok _ x hx
theorem actsN_inv {R:Int->Prop} {LD:Nx} {A:Nat->List ActN} {N n:Nat} (hL:∀ j,∀ x ∈ LD j,R x) (hn:n < N):∀ (L:List ActN) (s:Nx × Bool),(∀ a ∈ L,a ∈ A n)->InvN R LD A N s.1->InvN R LD A N (actsN LD L s).1
 | [],s,_,h=>h
 | a :: r,s,hs,h=>actsN_inv hL hn r _ (fun b hb=>hs b (List.mem_cons_of_mem _ hb)) (addN_inv hn (hs a (List.mem_cons_self ..)) _ s (fun x hx=>⟨srcN_ok hL h a x hx,hx⟩) h)
theorem passN_inv {R:Int->Prop} {LD:Nx} {A:Nat->List ActN} {N:Nat} (hL:∀ j,∀ x ∈ LD j,R x):∀ (c n:Nat) (s:Nx × Bool),n + c<=N->InvN R LD A N s.1->InvN R LD A N (passN LD A c n s).1
 | 0,n,s,_,h=>h
 | c + 1,n,s,hn,h=>passN_inv hL c (n + 1) _ (by omega) (actsN_inv hL (by omega) (A n) s (fun _ h=>h) h)
theorem RisL.len {N:Nat}:∀ (L:List Int) (b:Nat),RisL L->(∀ y ∈ L,(b:Int)<=y/\y < (N:Int))->b<=N->L.length + b<=N
 | [],b,_,_,hb=>by simpa using hb
 | z :: r,b,hr,hy,hb=>by obtain ⟨z1,z2⟩:=hy z (List.mem_cons_self ..);have:=RisL.len (N:=N) r (z.toNat + 1) hr.2 (fun y hyy=>⟨by have:=hr.1 y hyy;omega,(hy y (List.mem_cons_of_mem _ hyy)).2⟩) (by omega);rw [List.length_cons];omega
theorem putL_new (n:Int):∀ (L:List Int),n ∉ L->(putL L n).length=L.length + 1
 | [],_=>rfl
 | x :: r,h=>by
  have hx:x ≠ n:=fun e=>h (by rw [e];exact List.mem_cons_self ..);have hr:=putL_new n r (fun hm=>h (List.mem_cons_of_mem _ hm));unfold putL;rw [if_neg hx];split
  · simp [hr]
  · simp
def lackN (N:Nat) (T:Nx):Nat->Nat
 | 0=>0
 | k + 1=>lackN N T k + (N - (T k).length)
theorem lackN_le (N:Nat) (T:Nx):∀ k,lackN N T k<=k * N
 | 0=>Nat.zero_le _
 | k + 1=>by have:=lackN_le N T k;unfold lackN;rw [Nat.succ_mul];omega
theorem lackN_off {N:Nat} {T:Nx} {k:Nat} {l:List Int}:∀ m,m<=k->lackN N (setN T k l) m=lackN N T m
 | 0,_=>rfl
 | m + 1,h=>by
  unfold lackN;rw [lackN_off m (by omega)]
  congr 2
  unfold setN;rw [if_neg (by omega)]
theorem lackN_put {N:Nat} {T:Nx} {k:Nat} {x:Int} (hx:x ∉ T k) (hl:(T k).length < N):∀ m,k < m->lackN N (setN T k (putL (T k) x)) m < lackN N T m
 | 0,h=>absurd h (Nat.not_lt_zero _)
 | m + 1,h=>by
  unfold lackN;by_cases e:k=m
  · subst e;rw [lackN_off k (Nat.le_refl _)];have e2:setN T k (putL (T k) x) k=putL (T k) x:=(by unfold setN;rw [if_pos rfl]);rw [e2,putL_new x _ hx];omega
  · have h1:=lackN_put hx hl m (by omega);have e2:setN T k (putL (T k) x) m=T m:=(by unfold setN;rw [if_neg (fun e2=>e e2.symm)]);rw [e2];omega
theorem InvN.room {R:Int->Prop} {LD:Nx} {A:Nat->List ActN} {N:Nat} {T:Nx} (hR:∀ x,R x->0<=x/\x < (N:Int)) (h:InvN R LD A N T) (k:Nat):(T k).length<=N:=by have:=RisL.len (N:=N) (T k) 0 (h.ris k) (fun y hy=>by have:=hR y (h.ok k y hy);omega) (Nat.zero_le _);omega
theorem addN_lack {R:Int->Prop} {LD:Nx} {A:Nat->List ActN} {N n:Nat} (hR:∀ x,R x->0<=x/\x < (N:Int)) {a:ActN} (hn:n < N) (ha:a ∈ A n) (hk:a.1 < N):∀ (l:List Int) (s:Nx × Bool),(∀ x ∈ l,R x/\x ∈ srcN LD s.1 a)->InvN R LD A N s.1->lackN N (addN a.1 l s).1 N<=lackN N s.1 N/\(s.2=false->(addN a.1 l s).2=true->lackN N (addN a.1 l s).1 N < lackN N s.1 N)
 | [],s,_,_=>⟨Nat.le_refl _,fun h1 h2=>by have h2:s.2=true:=h2;rw [h1] at h2;cases h2⟩
 | x :: r,s,hl,h=>by
  unfold addN;split
  · exact addN_lack hR hn ha hk r s (fun y hy=>hl y (List.mem_cons_of_mem _ hy)) h
  ·
   next hx =>
   obtain ⟨hRx,hs⟩:=hl x (List.mem_cons_self ..);have hi:=h.put hRx ⟨n,a,hn,ha,rfl,hs⟩
   have h1:=(addN_lack hR hn ha hk r (setN s.1 a.1 (putL (s.1 a.1) x),true) (fun y hy=>by
    obtain ⟨h1,h2⟩:=hl y (List.mem_cons_of_mem _ hy)
    exact ⟨h1,srcN_mono (leN_set _ _ _) a h2⟩) hi).1
   have hlen:(s.1 a.1).length < N:=(by have h2:=hi.room hR a.1;have e2:setN s.1 a.1 (putL (s.1 a.1) x) a.1=putL (s.1 a.1) x:=(by unfold setN;rw [if_pos rfl]);rw [e2,putL_new x _ hx] at h2;omega);have h2:=lackN_put hx hlen N hk;have h1:lackN N (addN a.1 r (setN s.1 a.1 (putL (s.1 a.1) x),true)).1 N<=lackN N (setN s.1 a.1 (putL (s.1 a.1) x)) N:=h1;exact ⟨by omega,fun _ _=>by omega⟩
theorem actsN_lack {R:Int->Prop} {LD:Nx} {A:Nat->List ActN} {N n:Nat} (hR:∀ x,R x->0<=x/\x < (N:Int)) (hL:∀ j,∀ x ∈ LD j,R x) (hn:n < N) (hT:∀ a ∈ A n,a.1 < N):∀ (L:List ActN) (s:Nx × Bool),(∀ a ∈ L,a ∈ A n)->InvN R LD A N s.1->lackN N (actsN LD L s).1 N<=lackN N s.1 N/\(s.2=false->(actsN LD L s).2=true->lackN N (actsN LD L s).1 N < lackN N s.1 N)
 | [],s,_,_=>⟨Nat.le_refl _,fun h1 h2=>by have h2:s.2=true:=h2;rw [h1] at h2;cases h2⟩
 | a :: r,s,hs,h=>by
  have haA:=hs a (List.mem_cons_self ..);have hl:∀ x ∈ srcN LD s.1 a,R x/\x ∈ srcN LD s.1 a:=fun x hx=>⟨srcN_ok hL h a x hx,hx⟩;obtain ⟨h1,h2⟩:=addN_lack hR hn haA (hT a haA) (srcN LD s.1 a) s hl h;obtain ⟨h3,h4⟩:=actsN_lack hR hL hn hT r (addN a.1 (srcN LD s.1 a) s) (fun b hb=>hs b (List.mem_cons_of_mem _ hb)) (addN_inv hn haA _ s hl h);show lackN N (actsN LD r (addN a.1 (srcN LD s.1 a) s)).1 N<=lackN N s.1 N/\(s.2=false->(actsN LD r (addN a.1 (srcN LD s.1 a) s)).2=true->lackN N (actsN LD r (addN a.1 (srcN LD s.1 a) s)).1 N < lackN N s.1 N);refine ⟨Nat.le_trans h3 h1,fun h5 h6=>?_⟩
  cases hb:(addN a.1 (srcN LD s.1 a) s).2 with
  | true=>exact Nat.lt_of_le_of_lt h3 (h2 h5 hb)
  | false=>exact aL (h4 hb h6) h1
theorem passN_lack {R:Int->Prop} {LD:Nx} {A:Nat->List ActN} {N:Nat} (hR:∀ x,R x->0<=x/\x < (N:Int)) (hL:∀ j,∀ x ∈ LD j,R x) (hT:∀ n,n < N->∀ a ∈ A n,a.1 < N):∀ (c n:Nat) (s:Nx × Bool),n + c<=N->InvN R LD A N s.1->lackN N (passN LD A c n s).1 N<=lackN N s.1 N/\(s.2=false->(passN LD A c n s).2=true->lackN N (passN LD A c n s).1 N < lackN N s.1 N)
 | 0,n,s,_,_=>⟨Nat.le_refl _,fun h1 h2=>by have h2:s.2=true:=h2;rw [h1] at h2;cases h2⟩
 | c + 1,n,s,hn,h=>by
  obtain ⟨h1,h2⟩:=actsN_lack hR hL (by omega) (hT n (by omega)) (A n) s (fun _ h=>h) h;obtain ⟨h3,h4⟩:=passN_lack hR hL hT c (n + 1) (actsN LD (A n) s) (by omega) (actsN_inv hL (by omega) (A n) s (fun _ h=>h) h);show lackN N (passN LD A c (n + 1) (actsN LD (A n) s)).1 N<=lackN N s.1 N/\(s.2=false->(passN LD A c (n + 1) (actsN LD (A n) s)).2=true->lackN N (passN LD A c (n + 1) (actsN LD (A n) s)).1 N < lackN N s.1 N);refine ⟨Nat.le_trans h3 h1,fun h5 h6=>?_⟩
  cases hb:(actsN LD (A n) s).2 with
  | true=>exact Nat.lt_of_le_of_lt h3 (h2 h5 hb)
  | false=>exact aL (h4 hb h6) h1
theorem leastN_end {R:Int->Prop} {LD:Nx} {A:Nat->List ActN} {N:Nat} (hR:∀ x,R x->0<=x/\x < (N:Int)) (hL:∀ j,∀ x ∈ LD j,R x) (hT:∀ n,n < N->∀ a ∈ A n,a.1 < N):∀ (f:Nat) (T:Nx),lackN N T N < f->InvN R LD A N T->InvN R LD A N (leastN LD A N f T)/\∀ n,n < N->∀ a ∈ A n,∀ x ∈ srcN LD (leastN LD A N f T) a,x ∈ leastN LD A N f T a.1
 | 0,T,h,_=>by omega
 | f + 1,T,h,hi=>by
  unfold leastN;have h1:=passN_inv hL N 0 (T,false) (by omega) hi;have h2:=passN_lack hR hL hT N 0 (T,false) (by omega) hi;have h3:=passN_same LD A N 0 (T,false)
  cases hp:passN LD A N 0 (T,false) with
  | mk T' z =>
   rw [hp] at h1 h2 h3
   cases z with
   | true=>exact leastN_end hR hL hT f T' (by have:=h2.2 rfl rfl;show lackN N T' N < f;have h4:lackN N T' N < lackN N T N:=this;omega) h1
   | false =>
    obtain ⟨h4,h5⟩:=h3 rfl;have h4:T'=T:=congrArg Prod.fst h4;subst h4;exact ⟨h1,fun n hn=>h5 n (Nat.zero_le _) (by omega)⟩
theorem inv0N (R:Int->Prop) (LD:Nx) (A:Nat->List ActN) (N:Nat):InvN R LD A N (fun _=>[]):=⟨fun _=>trivial,fun _ x h=>(by cases h),fun _ x h=>(by cases h)⟩
def behA (NU:Nat->Bool) (n k:Nat):List Nat->List ActN
 | []=>[(k,false,n)]
 | b :: r=>(k,true,b) :: (if NU b=true then behA NU n k r else [])
def rowA (NU:Nat->Bool) (n:Nat):List Nat->List ActN
 | []=>[]
 | k :: r=>behA NU n k r ++ rowA NU n r
def actG (gr:Gj) (NU:Nat->Bool) (n:Nat):List ActN:=match gr.ns[n]? with
 | none=>[]
 | some x=>if x.op=9\/x.op=10 then [] else if x.op=11 then [(bodyG gr n,false,n)] else if x.op=4 then rowA NU n x.ks else if x.op=6\/x.op=7 then x.ks.flatMap (fun k=>[(k,true,k),(k,false,n)]) else x.ks.map (fun k=>(k,false,n))
def nextG (gr:Gj):Nx:=leastN (leadG gr) (actG gr (nulG gr)) gr.ns.length (gr.ns.length * gr.ns.length + 1) (fun _=>[])
theorem actsN_app (LD:Nx):∀ (a b:List ActN) (s:Nx × Bool),actsN LD (a ++ b) s=actsN LD b (actsN LD a s)
 | [],b,s=>rfl
 | x :: r,b,s=>actsN_app LD r b _
theorem info_ints:(Try.prog.info? 23).map (fun i=>(i.zero,i.size,i.bytes))=some (some (.slice none 0 0),1,24):=by kernel_rfl
theorem run_rows (n:Nat) (hn:(n:Int)<=1000) (w:World):(Instr.makeSlice 31 (.int .i64 (n:Int)) (.int .i64 (n:Int))).run Try.prog w=.ok (.slice (some ⟨w.heap.size,0,none⟩) n n) (w.alloc (.cells (Array.replicate n (Value.slice none 0 0)) 23)):=by obtain ⟨j0,hj,hy0,hy1,hy2⟩:=info_parts info_ints;have h:=run_make (P:=Try.prog) w 31 23 j0 (.slice none 0 0) Try.underlying31 hj hy0 .i64 .i64 n n (by omega) (Int.le_refl _) (by rw [hy2];omega) (by omega);rw [h,hy1,Int.toNat_natCast,Nat.mul_one,<- List.toArray_replicate,<- toList_madeCells_one];rfl
def OffS (S:Nat->Prop) (v:Value):Prop:=∀ g off n c,v=.slice (some ⟨g,off,none⟩) n c->0 < n->¬ S g
theorem IntsAt.off {S:Nat->Prop} {w w':World} {C:Nat} {v:Value} {L:List Int} (h:IntsAt w C v L) (hb:But S w w') (hS:OffS S v):IntsAt w' C v L:=by obtain ⟨ao,cap,e,hc,hf⟩:=h;refine ⟨ao,cap,e,hc,fun j hj=>?_⟩;obtain ⟨g,off,e1,h1,h2,h3⟩:=hf j hj;exact ⟨g,off,e1,aL h1 hb.size,h2,hb.cell (hS g off _ _ (by rw [e,e1]) (by omega)) h3⟩
theorem IntsAt.blk {w:World} {C:Nat} {v:Value} {L:List Int} (h:IntsAt w C v L) {g off n c:Nat} (e:v=.slice (some ⟨g,off,none⟩) n c) (hn:0 < n):C<=g/\g < w.heap.size:=by obtain ⟨ao,cap,e1,hc,hf⟩:=h;rw [e1] at e;injection e with e2 e3 e4;obtain ⟨g',off',e5,h1,h2,-⟩:=hf 0 (by omega);rw [e2] at e5;injection e5 with e5;injection e5 with e6 e7;subst e6;exact ⟨h2,h1⟩
def LdW (w:World) (C:Nat) (LD:Nx) (vl:Value) (k:Nat):Prop:=∃ (V:Nat->Value) (S:Nat->Prop),Win S 23 1 w vl k ((List.range k).map V)/\(∀ g,S g->C<=g/\g < w.heap.size)/\∀ j,j < k->IntsAt w C (V j) (LD j)/\OffS S (V j)
theorem LdW.nil (w:World) (C:Nat) (LD:Nx):LdW w C LD (.slice none 0 0) 0:=⟨fun _=>.slice none 0 0,fun _=>False,Win.nil _ _ _ _,fun _ h=>h.elim,fun j hj=>by omega⟩
theorem LdW.below {w w':World} {C:Nat} {LD:Nx} {vl:Value} {k:Nat} (h:LdW w C LD vl k) (hb:Below w.heap.size w w'):LdW w' C LD vl k:=by obtain ⟨V,S,h1,h2,h3⟩:=h;exact ⟨V,S,h1.below hb,fun g hg=>⟨(h2 g hg).1,aL (h2 g hg).2 hb.size⟩,fun j hj=>⟨(h3 j hj).1.below hb,(h3 j hj).2⟩⟩
theorem LdW.but {w w':World} {C p:Nat} {LD:Nx} {vl:Value} {k:Nat} (h:LdW w C LD vl k) (hb:But (fun g=>g=p) w w') (hp:p < C):LdW w' C LD vl k:=by obtain ⟨V,S,h1,h2,h3⟩:=h;exact ⟨V,S,h1.keep hb (fun g hg hs e=>by have:=(h2 g hs).1;have e:g=p:=e;omega),fun g hg=>⟨(h2 g hg).1,aL (h2 g hg).2 hb.size⟩,fun j hj=>⟨(h3 j hj).1.but hb (fun b hc _ e=>by have e:b=p:=e;omega),(h3 j hj).2⟩⟩
theorem LdW.more {w w':World} {C:Nat} {LD:Nx} {V:Nat->Value} {S:Nat->Prop} {v v':Value} {k:Nat} (hC:C<=w.heap.size) (h2:∀ g,S g->C<=g/\g < w.heap.size) (h3:∀ j,j < k->IntsAt w C (V j) (LD j)/\OffS S (V j)) (hv:IntsAt w C v (LD k)) (ho:OffS S v)
  (hw:Win (fun g=>S g\/w.heap.size<=g) 23 1 w' v' (k + 1) ((List.range k).map V ++ [v])) (hb:But S w w'):LdW w' C LD v' (k + 1):=by
 obtain ⟨g,off,cap,e,hg,hn,hl⟩:=hw.has (Nat.succ_pos k);refine ⟨fun j=>if j=k then v else V j,fun b=>b=g,?_,fun b e=>?_,fun j hj=>?_⟩
 ·
  have e2:(List.range (k + 1)).map (fun j=>if j=k then v else V j)=(List.range k).map V ++ [v]:=by
   rw [List.range_succ,List.map_append]
   congr 1
   · refine List.map_congr_left fun j hj=>?_;have:=List.mem_range.1 hj;exact if_neg (by omega)
   · simp
  rw [e2];obtain ⟨q1,q2⟩:=hw;refine ⟨q1,?_⟩;rcases q2 with q2 | ⟨g2,off2,cap2,cur,ev,hs,r⟩
  · rw [q2.1] at e;injection e with e;cases e
  · have:g2=g:=(by rw [ev] at e;injection e with e;injection e with e;injection e with e);exact .inr ⟨g2,off2,cap2,cur,ev,this,r⟩
 · have e:b=g:=e;rw [e];exact ⟨by rcases hg with h | h;exact (h2 g h).1;omega,hl⟩
 ·
  have key:∀ {u:Value} {L:List Int},IntsAt w C u L->OffS S u->IntsAt w' C u L/\OffS (fun b=>b=g) u:=fun hi ho=>⟨hi.off hb ho,fun g2 off2 n c ev2 hn e2=>by
   have e2:g2=g:=e2;subst e2;rcases hg with h | h
   · exact ho _ _ _ _ ev2 hn h
   · have:=(hi.blk ev2 hn).2;omega⟩
  show IntsAt w' C (if j=k then v else V j) (LD j)/\OffS (fun b=>b=g) (if j=k then v else V j);by_cases e:j=k
  · rw [if_pos e,e];exact key hv ho
  · rw [if_neg e];exact key (h3 j (by omega)).1 (h3 j (by omega)).2
theorem LdW.at_ {w:World} {C:Nat} {LD:Nx} {lo:Option Addr} {k lc:Nat} (h:LdW w C LD (.slice lo k lc) k):∀ j,j < k->∃ b off v,lo=some ⟨b,off,none⟩/\b < w.heap.size/\C<=b/\w.cell? ⟨b,off + j,none⟩=some v/\IntsAt w C v (LD j):=fun j hj=>by obtain ⟨V,S,h1,h2,h3⟩:=h;obtain ⟨ao,cap,e,-,-,hf⟩:=h1.form;injection e with e1 e2 e3;obtain ⟨g,off,e4,hs,hl,hc,-⟩:=hf j (by omega);refine ⟨g,off,V j,e1.trans e4,hl,(h2 g hs).1,?_,(h3 j hj).1⟩;rw [hc,List.getElem?_map,List.getElem?_range hj];rfl
theorem Src.oneV {w:World} {G:Nat} {v:Value} (h:Own w G 23 [v]) (h1:v.oneCell'=true):Src Try.prog 1 31 (.slice (some ⟨G,0,none⟩) 1 1) 1 [v] w:=by refine Src.ofSlice w Try.underlying31 ⟨G,0,none⟩ 1 1 [v] (by simp) (fun j u hu=>?_) (fun u hu=>by rw [List.mem_singleton] at hu;rw [hu];exact h1);rw [Addr.add_lit,Nat.zero_add,h.cell j];exact hu
end Go.Proofs.Ythddifjhoniacaa
