import Derived.Test.YthddifjhoniacaaGreatMa
namespace Go.Proofs.YthddifjhoniacaaGreat
set_option linter.unusedVariables false
set_option maxHeartbeats 3200000
set_option maxRecDepth 1000000
open Go.RowKit Go.Sort
abbrev Nx:=Nat->List Int
abbrev gX:=Nat × Bool × Nat
def mD (LD:Nx) (T:Nx) (a:gX):List Int:=if a.2.1=true then LD a.2.2 else T a.2.2
def iM (T:Nx) (k:Nat) (l:List Int):Nx:=fun j=>if j=k then l else T j
def addN (k:Nat):List Int->Nx × Bool->Nx × Bool
 | [],s=>s
 | x :: r,s=>if x ∈ s.1 k then addN k r s else addN k r (iM s.1 k (bT (s.1 k) x),true)
def eQ (LD:Nx):List gX->Nx × Bool->Nx × Bool
 | [],s=>s
 | a :: r,s=>eQ LD r (addN a.1 (mD LD s.1 a) s)
def jT (LD:Nx) (A:Nat->List gX):Nat->Nat->Nx × Bool->Nx × Bool
 | 0,_,s=>s
 | c + 1,n,s=>jT LD A c (n + 1) (eQ LD (A n) s)
def sI (LD:Nx) (A:Nat->List gX) (N:Nat):Nat->Nx->Nx
 | 0,T=>T
 | f + 1,T=>match jT LD A N 0 (T,false) with
  | (T',true)=>sI LD A N f T'
  | (T',false)=>T'
def leN (T T':Nx):Prop:=∀ k x,x ∈ T k->x ∈ T' k
theorem leN.refl (T:Nx):leN T T:=fun _ _ h=>h
theorem leN.trans {a b c:Nx} (h1:leN a b) (h2:leN b c):leN a c:=fun k x h=>h2 k x (h1 k x h)
theorem CO (T:Nx) (k:Nat) (x:Int):leN T (iM T k (bT (T k) x)):=fun j y h=>by
 unfold iM;split
 · next e=>subst e;exact (lW x _ y).2 (.inr h)
 · exact h
theorem Gg {LD T T':Nx} (h:leN T T') (a:gX) {x:Int} (hx:x ∈ mD LD T a):x ∈ mD LD T' a:=by
 unfold mD at hx ⊢;split
 · next e=>rw [if_pos e] at hx;exact hx
 · next e=>rw [if_neg e] at hx;exact h _ _ hx
theorem BJ (k:Nat):∀ (l:List Int) (s:Nx × Bool),leN s.1 (addN k l s).1/\(s.2=true->(addN k l s).2=true)
 | [],s=>⟨leN.refl _,fun h=>h⟩
 | x :: r,s=>by
  unfold addN;split
  · exact BJ k r s
  · obtain ⟨h1,h2⟩:=BJ k r (iM s.1 k (bT (s.1 k) x),true);exact ⟨(CO s.1 k x).trans h1,fun _=>h2 rfl⟩
theorem EC (LD:Nx):∀ (L:List gX) (s:Nx × Bool),leN s.1 (eQ LD L s).1/\(s.2=true->(eQ LD L s).2=true)
 | [],s=>⟨leN.refl _,fun h=>h⟩
 | a :: r,s=>by obtain ⟨h1,h2⟩:=BJ a.1 (mD LD s.1 a) s;obtain ⟨h3,h4⟩:=EC LD r (addN a.1 (mD LD s.1 a) s);exact ⟨h1.trans h3,fun h=>h4 (h2 h)⟩
theorem A1I (LD:Nx) (A:Nat->List gX):∀ (c n:Nat) (s:Nx × Bool),leN s.1 (jT LD A c n s).1/\(s.2=true->(jT LD A c n s).2=true)
 | 0,n,s=>⟨leN.refl _,fun h=>h⟩
 | c + 1,n,s=>by obtain ⟨h1,h2⟩:=EC LD (A n) s;obtain ⟨h3,h4⟩:=A1I LD A c (n + 1) (eQ LD (A n) s);exact ⟨h1.trans h3,fun h=>h4 (h2 h)⟩
theorem OE (k:Nat):∀ (l:List Int) (s:Nx × Bool),(addN k l s).2=false->addN k l s=s/\∀ x ∈ l,x ∈ s.1 k
 | [],s,_=>⟨rfl,fun x hx=>by cases hx⟩
 | x :: r,s,h=>by
  unfold addN at h ⊢;by_cases e:x ∈ s.1 k
  · rw [if_pos e] at h ⊢;obtain ⟨h1,h2⟩:=OE k r s h;exact ⟨h1,fun y hy=>by rcases List.mem_cons.1 hy with rfl | hy;exact e;exact h2 y hy⟩
  ·
   rw [if_neg e] at h;rw [(BJ k r (iM s.1 k (bT (s.1 k) x),true)).2 rfl] at h
   cases h
theorem ED (LD:Nx):∀ (L:List gX) (s:Nx × Bool),(eQ LD L s).2=false->eQ LD L s=s/\∀ a ∈ L,∀ x ∈ mD LD s.1 a,x ∈ s.1 a.1
 | [],s,_=>⟨rfl,fun a ha=>by cases ha⟩
 | a :: r,s,h=>by
  have h:(eQ LD r (addN a.1 (mD LD s.1 a) s)).2=false:=h;have hf:(addN a.1 (mD LD s.1 a) s).2=false:=by
   cases hb:(addN a.1 (mD LD s.1 a) s).2 with
   | false=>rfl
   | true=>rw [(EC LD r _).2 hb] at h;cases h
  obtain ⟨h1,h2⟩:=OE a.1 _ s hf;have e:eQ LD (a :: r) s=eQ LD r s:=by show eQ LD r (addN a.1 (mD LD s.1 a) s)=_;rw [h1]
  rw [h1] at h;obtain ⟨h3,h4⟩:=ED LD r s h;exact ⟨e.trans h3,fun b hb=>by rcases List.mem_cons.1 hb with rfl | hb;exact h2;exact h4 b hb⟩
theorem Qo (LD:Nx) (A:Nat->List gX):∀ (c n:Nat) (s:Nx × Bool),(jT LD A c n s).2=false->jT LD A c n s=s/\∀ j,n<=j->j < n + c->∀ a ∈ A j,∀ x ∈ mD LD s.1 a,x ∈ s.1 a.1
 | 0,n,s,_=>⟨rfl,fun j h1 h2=>by omega⟩
 | c + 1,n,s,h=>by
  have h:(jT LD A c (n + 1) (eQ LD (A n) s)).2=false:=h;have hf:(eQ LD (A n) s).2=false:=by
   cases hb:(eQ LD (A n) s).2 with
   | false=>rfl
   | true=>rw [(A1I LD A c (n + 1) _).2 hb] at h;cases h
  obtain ⟨h1,h2⟩:=ED LD (A n) s hf;have e:jT LD A (c + 1) n s=jT LD A c (n + 1) s:=by show jT LD A c (n + 1) (eQ LD (A n) s)=_;rw [h1]
  rw [h1] at h;obtain ⟨h3,h4⟩:=Qo LD A c (n + 1) s h;refine ⟨e.trans h3,fun j hj1 hj2=>?_⟩;by_cases ej:j=n
  · subst ej;exact h2
  · exact h4 j (by omega) (by omega)
structure wO (R:Int->Prop) (LD:Nx) (A:Nat->List gX) (N:Nat) (T:Nx):Prop where
 ris:∀ k,gF (T k)
 ok:∀ k,∀ x ∈ T k,R x
 sup:∀ k,∀ x ∈ T k,∃ n a,n < N/\a ∈ A n/\a.1=k/\x ∈ mD LD T a
theorem wO.put {R:Int->Prop} {LD:Nx} {A:Nat->List gX} {N:Nat} {T:Nx} (h:wO R LD A N T) {k:Nat} {x:Int} (hx:R x) (hs:∃ n a,n < N/\a ∈ A n/\a.1=k/\x ∈ mD LD T a):wO R LD A N (iM T k (bT (T k) x)):=by
 have hle:=CO T k x;refine ⟨fun j=>?_,fun j y hy=>?_,fun j y hy=>?_⟩
 ·
  unfold iM;split
  · exact (h.ris k).put x
  · exact h.ris j
 ·
  unfold iM at hy;split at hy
  ·
   rcases (lW x _ y).1 hy with rfl | hy
   · exact hx
   · exact h.ok k y hy
  · exact h.ok j y hy
 ·
  have key:y ∈ T j\/(j=k/\y=x):=by
   unfold iM at hy;split at hy
   ·
    next e =>
    rcases (lW x _ y).1 hy with e2 | hy
    · exact .inr ⟨e,e2⟩
    · exact .inl (by rw [e];exact hy)
   · exact .inl hy
  rcases key with hy | ⟨rfl,rfl⟩
  · obtain ⟨n,a,h1,h2,h3,h4⟩:=h.sup j y hy;exact ⟨n,a,h1,h2,h3,Gg hle a h4⟩
  · obtain ⟨n,a,h1,h2,h3,h4⟩:=hs;exact ⟨n,a,h1,h2,h3,Gg hle a h4⟩
theorem Rz {R:Int->Prop} {LD:Nx} {A:Nat->List gX} {N n:Nat} {a:gX} (hn:n < N) (ha:a ∈ A n):∀ (l:List Int) (s:Nx × Bool),(∀ x ∈ l,R x/\x ∈ mD LD s.1 a)->wO R LD A N s.1->wO R LD A N (addN a.1 l s).1
 | [],s,_,h=>h
 | x :: r,s,hl,h=>by
  unfold addN;split
  · exact Rz hn ha r s (fun y hy=>hl y (List.mem_cons_of_mem _ hy)) h
  · obtain ⟨hx,hs⟩:=hl x (List.mem_cons_self ..);refine Rz hn ha r _ (fun y hy=>?_) (h.put hx ⟨n,a,hn,ha,rfl,hs⟩);obtain ⟨h1,h2⟩:=hl y (List.mem_cons_of_mem _ hy);exact ⟨h1,Gg (CO _ _ _) a h2⟩
theorem A6W {R:Int->Prop} {LD:Nx} {A:Nat->List gX} {N:Nat} {T:Nx} (hL:∀ j,∀ x ∈ LD j,R x) (h:wO R LD A N T) (a:gX):∀ x ∈ mD LD T a,R x:=fun x hx=>by
 unfold mD at hx;split at hx
 · exact hL _ x hx
 · exact h.ok _ x hx
theorem Xd {R:Int->Prop} {LD:Nx} {A:Nat->List gX} {N n:Nat} (hL:∀ j,∀ x ∈ LD j,R x) (hn:n < N):∀ (L:List gX) (s:Nx × Bool),(∀ a ∈ L,a ∈ A n)->wO R LD A N s.1->wO R LD A N (eQ LD L s).1
 | [],s,_,h=>h
 | a :: r,s,hs,h=>Xd hL hn r _ (fun b hb=>hs b (List.mem_cons_of_mem _ hb)) (Rz hn (hs a (List.mem_cons_self ..)) _ s (fun x hx=>⟨A6W hL h a x hx,hx⟩) h)
theorem Nv {R:Int->Prop} {LD:Nx} {A:Nat->List gX} {N:Nat} (hL:∀ j,∀ x ∈ LD j,R x):∀ (c n:Nat) (s:Nx × Bool),n + c<=N->wO R LD A N s.1->wO R LD A N (jT LD A c n s).1
 | 0,n,s,_,h=>h
 | c + 1,n,s,hn,h=>Nv hL c (n + 1) _ (by omega) (Xd hL (by omega) (A n) s (fun _ h=>h) h)
theorem gF.len {N:Nat}:∀ (L:List Int) (b:Nat),gF L->(∀ y ∈ L,(b:Int)<=y/\y < (N:Int))->b<=N->L.length + b<=N
 | [],b,_,_,hb=>by simpa using hb
 | z :: r,b,hr,hy,hb=>by obtain ⟨z1,z2⟩:=hy z (List.mem_cons_self ..);have:=gF.len (N:=N) r (z.toNat + 1) hr.2 (fun y hyy=>⟨by have:=hr.1 y hyy;omega,(hy y (List.mem_cons_of_mem _ hyy)).2⟩) (by omega);rw [List.length_cons];omega
theorem Kh (n:Int):∀ (L:List Int),n ∉ L->(bT L n).length=L.length + 1
 | [],_=>rfl
 | x :: r,h=>by
  have hx:x ≠ n:=fun e=>h (by rw [e];exact List.mem_cons_self ..);have hr:=Kh n r (fun hm=>h (List.mem_cons_of_mem _ hm));unfold bT;rw [if_neg hx];split
  · simp [hr]
  · simp
def fU (N:Nat) (T:Nx):Nat->Nat
 | 0=>0
 | k + 1=>fU N T k + (N - (T k).length)
theorem Uh (N:Nat) (T:Nx):∀ k,fU N T k<=k * N
 | 0=>Nat.zero_le _
 | k + 1=>by have:=Uh N T k;unfold fU;rw [Nat.succ_mul];omega
theorem QD {N:Nat} {T:Nx} {k:Nat} {l:List Int}:∀ m,m<=k->fU N (iM T k l) m=fU N T m
 | 0,_=>rfl
 | m + 1,h=>by
  unfold fU;rw [QD m (by omega)]
  congr 2
  unfold iM;rw [if_neg (by omega)]
theorem QE {N:Nat} {T:Nx} {k:Nat} {x:Int} (hx:x ∉ T k) (hl:(T k).length < N):∀ m,k < m->fU N (iM T k (bT (T k) x)) m < fU N T m
 | 0,h=>absurd h (Nat.not_lt_zero _)
 | m + 1,h=>by
  unfold fU;by_cases e:k=m
  · subst e;rw [QD k (Nat.le_refl _)];have e2:iM T k (bT (T k) x) k=bT (T k) x:=(by unfold iM;rw [if_pos rfl]);rw [e2,Kh x _ hx];omega
  · have h1:=QE hx hl m (by omega);have e2:iM T k (bT (T k) x) m=T m:=(by unfold iM;rw [if_neg (fun e2=>e e2.symm)]);rw [e2];omega
theorem wO.room {R:Int->Prop} {LD:Nx} {A:Nat->List gX} {N:Nat} {T:Nx} (hR:∀ x,R x->0<=x/\x < (N:Int)) (h:wO R LD A N T) (k:Nat):(T k).length<=N:=by have:=gF.len (N:=N) (T k) 0 (h.ris k) (fun y hy=>by have:=hR y (h.ok k y hy);omega) (Nat.zero_le _);omega
theorem Xe {R:Int->Prop} {LD:Nx} {A:Nat->List gX} {N n:Nat} (hR:∀ x,R x->0<=x/\x < (N:Int)) {a:gX} (hn:n < N) (ha:a ∈ A n) (hk:a.1 < N):∀ (l:List Int) (s:Nx × Bool),(∀ x ∈ l,R x/\x ∈ mD LD s.1 a)->wO R LD A N s.1->fU N (addN a.1 l s).1 N<=fU N s.1 N/\(s.2=false->(addN a.1 l s).2=true->fU N (addN a.1 l s).1 N < fU N s.1 N)
 | [],s,_,_=>⟨Nat.le_refl _,fun h1 h2=>by have h2:s.2=true:=h2;rw [h1] at h2;cases h2⟩
 | x :: r,s,hl,h=>by
  unfold addN;split
  · exact Xe hR hn ha hk r s (fun y hy=>hl y (List.mem_cons_of_mem _ hy)) h
  ·
   next hx =>
   obtain ⟨hRx,hs⟩:=hl x (List.mem_cons_self ..);have hi:=h.put hRx ⟨n,a,hn,ha,rfl,hs⟩
   have h1:=(Xe hR hn ha hk r (iM s.1 a.1 (bT (s.1 a.1) x),true) (fun y hy=>by
    obtain ⟨h1,h2⟩:=hl y (List.mem_cons_of_mem _ hy)
    exact ⟨h1,Gg (CO _ _ _) a h2⟩) hi).1
   have hlen:(s.1 a.1).length < N:=(by have h2:=hi.room hR a.1;have e2:iM s.1 a.1 (bT (s.1 a.1) x) a.1=bT (s.1 a.1) x:=(by unfold iM;rw [if_pos rfl]);rw [e2,Kh x _ hx] at h2;omega);have h2:=QE hx hlen N hk;have h1:fU N (addN a.1 r (iM s.1 a.1 (bT (s.1 a.1) x),true)).1 N<=fU N (iM s.1 a.1 (bT (s.1 a.1) x)) N:=h1;exact ⟨by omega,fun _ _=>by omega⟩
theorem EB {R:Int->Prop} {LD:Nx} {A:Nat->List gX} {N n:Nat} (hR:∀ x,R x->0<=x/\x < (N:Int)) (hL:∀ j,∀ x ∈ LD j,R x) (hn:n < N) (hT:∀ a ∈ A n,a.1 < N):∀ (L:List gX) (s:Nx × Bool),(∀ a ∈ L,a ∈ A n)->wO R LD A N s.1->fU N (eQ LD L s).1 N<=fU N s.1 N/\(s.2=false->(eQ LD L s).2=true->fU N (eQ LD L s).1 N < fU N s.1 N)
 | [],s,_,_=>⟨Nat.le_refl _,fun h1 h2=>by have h2:s.2=true:=h2;rw [h1] at h2;cases h2⟩
 | a :: r,s,hs,h=>by
  have haA:=hs a (List.mem_cons_self ..);have hl:∀ x ∈ mD LD s.1 a,R x/\x ∈ mD LD s.1 a:=fun x hx=>⟨A6W hL h a x hx,hx⟩;obtain ⟨h1,h2⟩:=Xe hR hn haA (hT a haA) (mD LD s.1 a) s hl h;obtain ⟨h3,h4⟩:=EB hR hL hn hT r (addN a.1 (mD LD s.1 a) s) (fun b hb=>hs b (List.mem_cons_of_mem _ hb)) (Rz hn haA _ s hl h);show fU N (eQ LD r (addN a.1 (mD LD s.1 a) s)).1 N<=fU N s.1 N/\(s.2=false->(eQ LD r (addN a.1 (mD LD s.1 a) s)).2=true->fU N (eQ LD r (addN a.1 (mD LD s.1 a) s)).1 N < fU N s.1 N);refine ⟨Nat.le_trans h3 h1,fun h5 h6=>?_⟩
  cases hb:(addN a.1 (mD LD s.1 a) s).2 with
  | true=>exact Nat.lt_of_le_of_lt h3 (h2 h5 hb)
  | false=>exact aL (h4 hb h6) h1
theorem Ht {R:Int->Prop} {LD:Nx} {A:Nat->List gX} {N:Nat} (hR:∀ x,R x->0<=x/\x < (N:Int)) (hL:∀ j,∀ x ∈ LD j,R x) (hT:∀ n,n < N->∀ a ∈ A n,a.1 < N):∀ (c n:Nat) (s:Nx × Bool),n + c<=N->wO R LD A N s.1->fU N (jT LD A c n s).1 N<=fU N s.1 N/\(s.2=false->(jT LD A c n s).2=true->fU N (jT LD A c n s).1 N < fU N s.1 N)
 | 0,n,s,_,_=>⟨Nat.le_refl _,fun h1 h2=>by have h2:s.2=true:=h2;rw [h1] at h2;cases h2⟩
 | c + 1,n,s,hn,h=>by
  obtain ⟨h1,h2⟩:=EB hR hL (by omega) (hT n (by omega)) (A n) s (fun _ h=>h) h;obtain ⟨h3,h4⟩:=Ht hR hL hT c (n + 1) (eQ LD (A n) s) (by omega) (Xd hL (by omega) (A n) s (fun _ h=>h) h);show fU N (jT LD A c (n + 1) (eQ LD (A n) s)).1 N<=fU N s.1 N/\(s.2=false->(jT LD A c (n + 1) (eQ LD (A n) s)).2=true->fU N (jT LD A c (n + 1) (eQ LD (A n) s)).1 N < fU N s.1 N);refine ⟨Nat.le_trans h3 h1,fun h5 h6=>?_⟩
  cases hb:(eQ LD (A n) s).2 with
  | true=>exact Nat.lt_of_le_of_lt h3 (h2 h5 hb)
  | false=>exact aL (h4 hb h6) h1
theorem II {R:Int->Prop} {LD:Nx} {A:Nat->List gX} {N:Nat} (hR:∀ x,R x->0<=x/\x < (N:Int)) (hL:∀ j,∀ x ∈ LD j,R x) (hT:∀ n,n < N->∀ a ∈ A n,a.1 < N):∀ (f:Nat) (T:Nx),fU N T N < f->wO R LD A N T->wO R LD A N (sI LD A N f T)/\∀ n,n < N->∀ a ∈ A n,∀ x ∈ mD LD (sI LD A N f T) a,x ∈ sI LD A N f T a.1
 | 0,T,h,_=>by omega
 | f + 1,T,h,hi=>by
  unfold sI;have h1:=Nv hL N 0 (T,false) (by omega) hi;have h2:=Ht hR hL hT N 0 (T,false) (by omega) hi;have h3:=Qo LD A N 0 (T,false)
  cases hp:jT LD A N 0 (T,false) with
  | mk T' z =>
   rw [hp] at h1 h2 h3
   cases z with
   | true=>exact II hR hL hT f T' (by have:=h2.2 rfl rfl;show fU N T' N < f;have h4:fU N T' N < fU N T N:=this;omega) h1
   | false =>
    obtain ⟨h4,h5⟩:=h3 rfl;have h4:T'=T:=congrArg Prod.fst h4;subst h4;exact ⟨h1,fun n hn=>h5 n (Nat.zero_le _) (by omega)⟩
theorem B0Y (R:Int->Prop) (LD:Nx) (A:Nat->List gX) (N:Nat):wO R LD A N (fun _=>[]):=⟨fun _=>trivial,fun _ x h=>(by cases h),fun _ x h=>(by cases h)⟩
def Dy (NU:Nat->Bool) (n k:Nat):List Nat->List gX
 | []=>[(k,false,n)]
 | b :: r=>(k,true,b) :: (if NU b=true then Dy NU n k r else [])
def yJ (NU:Nat->Bool) (n:Nat):List Nat->List gX
 | []=>[]
 | k :: r=>Dy NU n k r ++ yJ NU n r
def zF (gr:Gj) (NU:Nat->Bool) (n:Nat):List gX:=match gr.ns[n]? with
 | none=>[]
 | some x=>if x.op=9\/x.op=10 then [] else if x.op=11 then [(bY gr n,false,n)] else if x.op=4 then yJ NU n x.ks else if x.op=6\/x.op=7 then x.ks.flatMap (fun k=>[(k,true,k),(k,false,n)]) else x.ks.map (fun k=>(k,false,n))
def bP (gr:Gj):Nx:=sI (dE gr) (zF gr (aZ gr)) gr.ns.length (gr.ns.length * gr.ns.length + 1) (fun _=>[])
theorem OD (LD:Nx):∀ (a b:List gX) (s:Nx × Bool),eQ LD (a ++ b) s=eQ LD b (eQ LD a s)
 | [],b,s=>rfl
 | x :: r,b,s=>OD LD r b _
theorem Es:(Tryz.prog.info? 25).map (fun i=>(i.zero,i.size,i.bytes))=some (some (.slice none 0 0),1,24):=by kernel_rfl
theorem LX (n:Nat) (hn:(n:Int)<=1000) (w:World):(Instr.makeSlice 32 (.int .i64 (n:Int)) (.int .i64 (n:Int))).run Tryz.prog w=.ok (.slice (some ⟨w.heap.size,0,none⟩) n n) (w.alloc (.cells (Array.replicate n (Value.slice none 0 0)) 25)):=by obtain ⟨j0,hj,hy0,hy1,hy2⟩:=info_parts Es;have h:=run_make (P:=Tryz.prog) w 32 25 j0 (.slice none 0 0) Tryz.underlying32 hj hy0 .i64 .i64 n n (by omega) (Int.le_refl _) (by rw [hy2];omega) (by omega);rw [h,hy1,Int.toNat_natCast,Nat.mul_one,<- List.toArray_replicate,<- toList_madeCells_one];rfl
def Iq (S:Nat->Prop) (v:Value):Prop:=∀ g off n c,v=.slice (some ⟨g,off,none⟩) n c->0 < n->¬ S g
theorem aO.off {S:Nat->Prop} {w w':World} {C:Nat} {v:Value} {L:List Int} (h:aO w C v L) (hb:But S w w') (hS:Iq S v):aO w' C v L:=by obtain ⟨ao,cap,e,hc,hf⟩:=h;refine ⟨ao,cap,e,hc,fun j hj=>?_⟩;obtain ⟨g,off,e1,h1,h2,h3⟩:=hf j hj;exact ⟨g,off,e1,aL h1 hb.size,h2,hb.cell (hS g off _ _ (by rw [e,e1]) (by omega)) h3⟩
theorem aO.blk {w:World} {C:Nat} {v:Value} {L:List Int} (h:aO w C v L) {g off n c:Nat} (e:v=.slice (some ⟨g,off,none⟩) n c) (hn:0 < n):C<=g/\g < w.heap.size:=by obtain ⟨ao,cap,e1,hc,hf⟩:=h;rw [e1] at e;injection e with e2 e3 e4;obtain ⟨g',off',e5,h1,h2,-⟩:=hf 0 (by omega);rw [e2] at e5;injection e5 with e5;injection e5 with e6 e7;subst e6;exact ⟨h2,h1⟩
def LdW (w:World) (C:Nat) (LD:Nx) (vl:Value) (k:Nat):Prop:=∃ (V:Nat->Value) (S:Nat->Prop),Win S 25 1 w vl k ((List.range k).map V)/\(∀ g,S g->C<=g/\g < w.heap.size)/\∀ j,j < k->aO w C (V j) (LD j)/\Iq S (V j)
theorem LdW.nil (w:World) (C:Nat) (LD:Nx):LdW w C LD (.slice none 0 0) 0:=⟨fun _=>.slice none 0 0,fun _=>False,Win.nil _ _ _ _,fun _ h=>h.elim,fun j hj=>by omega⟩
theorem LdW.below {w w':World} {C:Nat} {LD:Nx} {vl:Value} {k:Nat} (h:LdW w C LD vl k) (hb:Below w.heap.size w w'):LdW w' C LD vl k:=by obtain ⟨V,S,h1,h2,h3⟩:=h;exact ⟨V,S,h1.below hb,fun g hg=>⟨(h2 g hg).1,aL (h2 g hg).2 hb.size⟩,fun j hj=>⟨(h3 j hj).1.below hb,(h3 j hj).2⟩⟩
theorem LdW.but {w w':World} {C p:Nat} {LD:Nx} {vl:Value} {k:Nat} (h:LdW w C LD vl k) (hb:But (fun g=>g=p) w w') (hp:p < C):LdW w' C LD vl k:=by obtain ⟨V,S,h1,h2,h3⟩:=h;exact ⟨V,S,h1.keep hb (fun g hg hs e=>by have:=(h2 g hs).1;have e:g=p:=e;omega),fun g hg=>⟨(h2 g hg).1,aL (h2 g hg).2 hb.size⟩,fun j hj=>⟨(h3 j hj).1.but hb (fun b hc _ e=>by have e:b=p:=e;omega),(h3 j hj).2⟩⟩
theorem LdW.more {w w':World} {C:Nat} {LD:Nx} {V:Nat->Value} {S:Nat->Prop} {v v':Value} {k:Nat} (hC:C<=w.heap.size) (h2:∀ g,S g->C<=g/\g < w.heap.size) (h3:∀ j,j < k->aO w C (V j) (LD j)/\Iq S (V j)) (hv:aO w C v (LD k)) (ho:Iq S v)
  (hw:Win (fun g=>S g\/w.heap.size<=g) 25 1 w' v' (k + 1) ((List.range k).map V ++ [v])) (hb:But S w w'):LdW w' C LD v' (k + 1):=by
 obtain ⟨g,off,cap,e,hg,hn,hl⟩:=hw.has (Nat.succ_pos k);refine ⟨fun j=>if j=k then v else V j,fun b=>b=g,?_,fun b e=>?_,fun j hj=>?_⟩
 ·
  have e2:(List.range (k + 1)).map (fun j=>if j=k then v else V j)=(List.range k).map V ++ [v]:=by
   rw [List.range_succ,List.map_append]
   congr 1
   · refine List.map_congr_left fun j hj=>?_;have:=List.mem_range.1 hj;exact if_neg (by omega)
   · simp
  rw [e2];obtain ⟨q1,q2⟩:=hw;refine ⟨q1,?_⟩;rcases q2 with q2 | ⟨g2,off2,cap2,cur,ev,hs,r⟩
  · rw [q2.1] at e;injection e with e;cases e
  · have:g2=g:=(by rw [ev] at e;injection e with e;injection e with e;injection e with e);exact .inr ⟨g2,off2,cap2,cur,ev,this,r⟩
 · have e:b=g:=e;rw [e];exact ⟨by rcases hg with h | h;exact (h2 g h).1;omega,hl⟩
 ·
  have key:∀ {u:Value} {L:List Int},aO w C u L->Iq S u->aO w' C u L/\Iq (fun b=>b=g) u:=fun hi ho=>⟨hi.off hb ho,fun g2 off2 n c ev2 hn e2=>by
   have e2:g2=g:=e2;subst e2;rcases hg with h | h
   · exact ho _ _ _ _ ev2 hn h
   · have:=(hi.blk ev2 hn).2;omega⟩
  show aO w' C (if j=k then v else V j) (LD j)/\Iq (fun b=>b=g) (if j=k then v else V j);by_cases e:j=k
  · rw [if_pos e,e];exact key hv ho
  · rw [if_neg e];exact key (h3 j (by omega)).1 (h3 j (by omega)).2
theorem LdW.at_ {w:World} {C:Nat} {LD:Nx} {lo:Option Addr} {k lc:Nat} (h:LdW w C LD (.slice lo k lc) k):∀ j,j < k->∃ b off v,lo=some ⟨b,off,none⟩/\b < w.heap.size/\C<=b/\w.cell? ⟨b,off + j,none⟩=some v/\aO w C v (LD j):=fun j hj=>by obtain ⟨V,S,h1,h2,h3⟩:=h;obtain ⟨ao,cap,e,-,-,hf⟩:=h1.form;injection e with e1 e2 e3;obtain ⟨g,off,e4,hs,hl,hc,-⟩:=hf j (by omega);refine ⟨g,off,V j,e1.trans e4,hl,(h2 g hs).1,?_,(h3 j hj).1⟩;rw [hc,List.getElem?_map,List.getElem?_range hj];rfl
theorem Src.oneV {w:World} {G:Nat} {v:Value} (h:Own w G 25 [v]) (h1:v.oneCell'=true):Src Tryz.prog 1 32 (.slice (some ⟨G,0,none⟩) 1 1) 1 [v] w:=by refine Src.ofSlice w Tryz.underlying32 ⟨G,0,none⟩ 1 1 [v] (by simp) (fun j u hu=>?_) (fun u hu=>by rw [List.mem_singleton] at hu;rw [hu];exact h1);rw [Addr.add_lit,Nat.zero_add,h.cell j];exact hu
theorem gF.lt:∀ {l:List Int},gF l->∀ {i k:Nat},i < k->k < l.length->l.getD i 0 < l.getD k 0
 | [],_,i,k,_,hk=>by simp at hk
 | x :: r,h,0,k + 1,_,hk=>by
  have hk:k < r.length:=by simpa using hk
  have e:(x :: r).getD (k + 1) 0=r[k]:=by rw [List.getD_eq_getElem?_getD,List.getElem?_cons_succ,aG hk];rfl
  rw [e];exact h.1 _ (List.getElem_mem _)
 | x :: r,h,i + 1,k + 1,hik,hk=>by have:=gF.lt h.2 (i:=i) (k:=k) (by omega) (by simpa using hk);simpa [List.getD_eq_getElem?_getD] using this
theorem B8m {L:List Int} {x:Int} {i:Nat} (hr:gF L) (h1:∀ k,k < i->L.getD k 0 < x) (h2:∀ k,i<=k->k < L.length->¬ L.getD k 0 < x):x ∈ L ↔ i < L.length/\L.getD i 0=x:=by
 constructor
 ·
  intro h;obtain ⟨k,hk,e⟩:=List.mem_iff_getElem.1 h;have ek:L.getD k 0=x:=by rw [List.getD_eq_getElem?_getD,aG hk];exact e
  have hik:i<=k:=by refine Nat.le_of_not_lt fun hlt=>?_;have:=h1 k hlt;omega
  by_cases e2:i=k
  · subst e2;exact ⟨hk,ek⟩
  · have h3:=hr.lt (show i < k by omega) hk;have h4:=h2 i (Nat.le_refl _) (by omega);omega
 · rintro ⟨hi,e⟩;rw [<- e,List.getD_eq_getElem?_getD,aG hi];exact List.getElem_mem _
theorem A9d (a:Int) (w:World):Calls Tryz.prog 99 #[.int .i64 a] w fun e w'=>e=.returned (.bool false)/\w'=w:=by
 have h:(a != a)=false:=by simp
 go_enter Tryz.func99,Tryz.ntmps99;go_wp2;go_ret;exact ⟨rfl,rfl⟩
theorem B3S (a:Int) (w:World):Calls Tryz.prog 88 #[.int .i64 a] w fun e w'=>e=.returned (.bool false)/\w'=w:=by
 have h:(a != a)=false:=by simp
 go_enter Tryz.func88,Tryz.ntmps88;go_wp2;go_ret;exact ⟨rfl,rfl⟩
theorem A6y (a b:Int) (w:World):Calls Tryz.prog 87 #[.int .i64 a,.int .i64 b] w fun e w'=>e=.returned (.bool (decide (a < b)))/\w'=w:=by obtain ⟨z,hz⟩:∃ z,decide (a < b)=z:=⟨_,rfl⟩;rw [hz];go_enter Tryz.func87,Tryz.ntmps87;go_wp2_with fail;refine (A9d a w).mono ?_;rintro e w2 ⟨he,hw2⟩;subst he;subst hw2;go_wp2;go_ret;exact ⟨rfl,rfl⟩
theorem YO (L:List Int) (x:Int) (hr:gF L) (hl:(L.length:Int)<=1000) (v:Value) (C:Nat) (w:World) (hv:aO w C v L) :
  Calls Tryz.prog 72 #[v,.int .i64 x] w fun e w'=>(∃ i:Int,e=.returned (.tuple #[.int .i64 i,.bool (decide (x ∈ L))]))/\w'=w:=by
 obtain ⟨ao,cap,rfl,hcap,hcell⟩:=hv;have HCE:=aH hcell;have HR:=aH hr;obtain ⟨m,hm⟩:∃ m,L.length=m:=⟨_,rfl⟩;have HM:=aH hm;obtain ⟨RES,hRES⟩:∃ z,decide (x ∈ L)=z:=⟨_,rfl⟩;have HRES:=aH hRES;rw [hm] at hcap hl;rw [hm,hRES];clear hcell hm hr hRES;go_enter Tryz.func72,Tryz.ntmps72;go_wp2_with fail
 go_loopw [7,8] (fun v7 v8 wr=>∃ i j:Nat,v7=.int .i64 (i:Int)/\v8=.int .i64 (j:Int)/\i<=j/\j<=m/\aQ (∀ k,k < i->L.getD k 0 < x)/\aQ (∀ k,j<=k->k < m->x<=L.getD k 0)/\wr=w) (fun v7 v8 _=>(intOf v8).toNat - (intOf v7).toNat)
 case atStart=>exact ⟨0,m,rfl,rfl,Nat.zero_le _,Nat.le_refl _,aH (fun k hk=>by omega),aH (fun k h1 h2=>by omega),(by first | trivial | rfl)⟩
 case round =>
  obtain ⟨i,j,rfl,rfl,hij,hjm,HA,HB,rfl⟩:=hrel;by_cases h1:(i:Int) < (j:Int)
  ·
   have h1a:decide ((i:Int) < (j:Int))=true:=aT h1;have h1b:decide (i < j)=true:=aT (by omega);obtain ⟨h,hh⟩:∃ h,(i + j) / 2=h:=⟨_,rfl⟩;have hhi:i<=h:=(by omega);have hhj:h < j:=(by omega);have hw1:IntKind.i64.wrap ((i:Int) + (j:Int))=(i:Int) + (j:Int):=wI;have hw2:IntKind.u64.wrap ((i:Int) + (j:Int))=(i:Int) + (j:Int):=(by rw [IntKind.wrap_u64];omega);have hs1:((i:Int) + (j:Int)) / 2 ^ 1=(h:Int):=(by rw [show ((2:Int) ^ 1)=2 from rfl];omega);have hs2:((i:Int) + (j:Int)) / 2=(h:Int):=(by omega);have hw3:IntKind.i64.wrap (h:Int)=(h:Int):=wI;have hw4:IntKind.i64.wrap ((h:Int) + 1)=(h:Int) + 1:=wI;have hhm:decide ((h:Int) < (m:Int))=true:=aT (by omega);have hhm2:decide (h < m)=true:=aT (by omega);have hh0:decide ((h:Int) < 0)=false:=aF (by omega);obtain ⟨g,off,hao,hg,-,c0⟩:=HCE.o h (by have:=HM.o;omega);subst hao;obtain ⟨y,hy⟩:∃ y,L.getD h 0=y:=⟨_,rfl⟩;have HY:=aH hy;rw [hy] at c0;clear hh hy;go_wp2_with fail;refine (A6y y x wr).mono ?_;rintro e w2 ⟨he,hw⟩;subst he;subst hw;by_cases hyx:y < x
   ·
    have hd:decide (y < x)=true:=aT hyx
    have HA2:=aH (show ∀ k,k < h + 1->L.getD k 0 < x from fun k hk=>by
     by_cases e:k=h
     · rw [e,HY.o];exact hyx
     ·
      have h2:=HR.o.lt (show k < h by omega) (by have:=HM.o;omega);rw [HY.o] at h2
      omega)
    go_wp2
    go_roundw
    case rel=>exact ⟨h + 1,j,by go_num,rfl,by omega,hjm,HA2,HB,(by first | trivial | rfl)⟩
    case measure=>simp [intOf];omega
   ·
    have hd:decide (y < x)=false:=aF hyx
    have HB2:=aH (show ∀ k,h<=k->k < m->x<=L.getD k 0 from fun k hk hkm=>by
     by_cases e:k=h
     · rw [e,HY.o];omega
     ·
      have h2:=HR.o.lt (show h < k by omega) (by have:=HM.o;omega);rw [HY.o] at h2
      omega)
    go_wp2
    go_roundw
    case rel=>exact ⟨i,h,rfl,rfl,by omega,by omega,HA,HB2,(by first | trivial | rfl)⟩
    case measure=>simp [intOf];omega
  ·
   have h1a:decide ((i:Int) < (j:Int))=false:=aF h1;have h1b:decide (i < j)=false:=aF (by omega);obtain rfl:i=j:=(by omega);have HEQ:=aH (B8m HR.o HA.o (fun k h1 h2=>by have:=HB.o k h1 (by have:=HM.o;omega);omega));by_cases him:(i:Int) < (m:Int)
   ·
    have him1:decide ((i:Int) < (m:Int))=true:=aT him;have him2:decide (i < m)=true:=aT (by omega);obtain ⟨g,off,hao,hg,-,c0⟩:=HCE.o i (by have:=HM.o;omega);subst hao;obtain ⟨y,hy⟩:∃ y,L.getD i 0=y:=⟨_,rfl⟩;have HY:=aH hy;rw [hy] at c0;clear hy;by_cases hyx:y=x
    · have hd:(y == x)=true:=beq_iff_eq.2 hyx;have HE:=aH (show RES=true from by rw [<- HRES.o];exact aT (HEQ.o.2 ⟨by have:=HM.o;omega,by rw [HY.o];exact hyx⟩));go_wp2;refine bodyPost_ret (by simp [results,Tryz.results72,go_sem];rfl) rfl ?_;rw [HE.o];exact ⟨⟨_,rfl⟩,rfl⟩
    · have hd:(y == x)=false:=aN.2 hyx;have HE:=aH (show RES=false from by rw [<- HRES.o];exact aF (fun h=>hyx (by have h2:=(HEQ.o.1 h).2;rw [HY.o] at h2;exact h2)));go_wp2_with fail;refine (B3S y wr).mono ?_;rintro e w2 ⟨he,hw⟩;subst he;subst hw;go_wp2;refine bodyPost_ret (by simp [results,Tryz.results72,go_sem];rfl) rfl ?_;rw [HE.o];exact ⟨⟨_,rfl⟩,rfl⟩
   · have him1:decide ((i:Int) < (m:Int))=false:=aF him;have him2:decide (i < m)=false:=aF (by omega);have HE:=aH (show RES=false from by rw [<- HRES.o];exact aF (fun h=>by have h2:=(HEQ.o.1 h).1;have:=HM.o;omega));go_wp2;refine bodyPost_ret (by simp [results,Tryz.results72,go_sem];rfl) rfl ?_;rw [HE.o];exact ⟨⟨_,rfl⟩,rfl⟩
structure Sh (w:World) (E p u q C:Nat) (lo:Option Addr) (lc:Nat) (gr:Gj) (a:Gv) (LD:Nx) (s:Nx × Bool):Prop where
 ep:E<=p
 eq:E<=q
 pq:p ≠ q
 up:u ≠ p
 uq:u ≠ q
 pc:p < C
 qc:q < C
 own:Own w p 56 [.slice a.mo gr.ms.length a.mc,.slice a.no gr.ns.length a.nc,.slice a.ho gr.hs.length a.hc,.slice a.wo gr.ws.length a.wc,.int .i64 gr.st,.slice (some ⟨u,0,none⟩) gr.ns.length gr.ns.length,.slice lo gr.ns.length lc,.slice (some ⟨q,0,none⟩) gr.ns.length gr.ns.length,.bool s.2]
 nu:Own w u 4 (bZ (aZ gr) gr.ns.length)
 nx:∃ V:Nat->Value,Own w q 25 ((List.range gr.ns.length).map V)/\∀ k,k < gr.ns.length->aO w C (V k) (s.1 k)
 ld:∀ k,k < gr.ns.length->∃ b off v,lo=some ⟨b,off,none⟩/\b < w.heap.size/\C<=b/\w.cell? ⟨b,off + k,none⟩=some v/\aO w C v (LD k)
 hg:mG w (fun b=>b < E) gr a
 ok:∀ k,gF (s.1 k)/\∀ x ∈ s.1 k,0<=x/\x < (gr.ns.length:Int)
 sz:C<=w.heap.size
section
variable {w w':World} {E p u q C:Nat} {lo:Option Addr} {lc:Nat} {gr:Gj} {a:Gv} {LD:Nx} {s:Nx × Bool}
theorem Sh.below (h:Sh w E p u q C lo lc gr a LD s) (hb:Below w.heap.size w w'):Sh w' E p u q C lo lc gr a LD s:=by
 obtain ⟨V,h1,h2⟩:=h.nx
 exact ⟨h.ep,h.eq,h.pq,h.up,h.uq,h.pc,h.qc,h.own.under hb h.own.lt,h.nu.under hb h.nu.lt,⟨V,h1.under hb h1.lt,fun k hk=>(h2 k hk).below hb⟩,
  fun k hk=>by obtain ⟨b,off,v,e,h3,h4,h5,h6⟩:=h.ld k hk;exact ⟨b,off,v,e,aL h3 hb.size,h4,aC h5 hb,h6.below hb⟩,h.hg.below hb,h.ok,Nat.le_trans h.sz hb.size⟩
theorem Sh.len (h:Sh w E p u q C lo lc gr a LD s) (k:Nat):(s.1 k).length<=gr.ns.length:=by have:=gF.len (N:=gr.ns.length) (s.1 k) 0 (h.ok k).1 (fun y hy=>by have:=(h.ok k).2 y hy;omega) (Nat.zero_le _);omega
theorem Sh.put (h:Sh w E p u q C lo lc gr a LD s) {n:Nat} {x:Int} {v:Value} (hx:0<=x/\x < (gr.ns.length:Int)) (hv:aO w C v (bT (s.1 n) x)):Sh ((w.setCell ⟨q,n,none⟩ v).setCell ⟨p,8,none⟩ (.bool true)) E p u q C lo lc gr a LD (iM s.1 n (bT (s.1 n) x),true):=by
 have hb1:But (fun j=>j=q) w (w.setCell ⟨q,n,none⟩ v):=But.put w q n v;have hb2:But (fun j=>j=p) (w.setCell ⟨q,n,none⟩ v) ((w.setCell ⟨q,n,none⟩ v).setCell ⟨p,8,none⟩ (.bool true)):=But.put _ p 8 _;have hb:But (fun j=>j=p\/j=q) w ((w.setCell ⟨q,n,none⟩ v).setCell ⟨p,8,none⟩ (.bool true)):=(hb1.mono (fun j _ e=>.inr e)).trans hb2 (fun j _ e=>.inl e);have hI:∀ {v':Value} {L:List Int},aO w C v' L->aO ((w.setCell ⟨q,n,none⟩ v).setCell ⟨p,8,none⟩ (.bool true)) C v' L:=fun hi=>hi.but hb (fun b hc _ e=>by have:=h.pc;have:=h.qc;rcases e with e | e <;> omega);obtain ⟨V,h1,h2⟩:=h.nx;refine ⟨h.ep,h.eq,h.pq,h.up,h.uq,h.pc,h.qc,?_,?_,⟨fun j=>if j=n then v else V j,?_,fun k hk=>?_⟩,fun k hk=>?_,?_,fun k=>?_,Nat.le_trans h.sz hb.size⟩
 · exact (h.own.but hb1 h.pq).put 8 (.bool true)
 · exact h.nu.but hb (fun e=>by rcases e with e | e;exact h.up e;exact h.uq e)
 ·
  have h3:=(h1.put n v).but hb2 (fun e=>h.pq e.symm);have e:((List.range gr.ns.length).map V).set n v=(List.range gr.ns.length).map (fun j=>if j=n then v else V j):=by
   apply List.ext_getElem?;intro i;rw [List.getElem?_set,List.getElem?_map,List.getElem?_map,List.length_map,List.length_range];by_cases hi:i < gr.ns.length
   ·
    rw [List.getElem?_range hi];by_cases e:n=i
    · subst e;simp [hi]
    · simp [e,Ne.symm e]
   ·
    rw [List.getElem?_eq_none (by simpa using hi)];by_cases e:n=i
    · subst e;simp [hi]
    · simp [e]
  rw [e] at h3;exact h3
 ·
  show aO _ C (if k=n then v else V k) (iM s.1 n (bT (s.1 n) x) k);unfold iM;by_cases e:k=n
  · rw [if_pos e,if_pos e];exact hI hv
  · rw [if_neg e,if_neg e];exact hI (h2 k hk)
 · obtain ⟨b,off,v',e,h3,h4,h5,h6⟩:=h.ld k hk;exact ⟨b,off,v',e,aL h3 hb.size,h4,hb.cell (fun e=>by have:=h.pc;have:=h.qc;have e:b=p\/b=q:=e;rcases e with e | e <;> omega) h5,hI h6⟩
 · exact h.hg.but hb (fun j _ hj e=>by have:=h.ep;have:=h.eq;rcases e with e | e <;> omega)
 ·
  show gF (iM s.1 n (bT (s.1 n) x) k)/\∀ y ∈ iM s.1 n (bT (s.1 n) x) k,_;unfold iM;split
  · exact ⟨(h.ok n).1.put x,fun y hy=>by rcases (lW x _ y).1 hy with rfl | hy;exact hx;exact (h.ok n).2 y hy⟩
  · exact h.ok k
end
theorem A6o {n:Nat} {L:List Int} {k:Nat} {x:Int} {s:Nx × Bool} (h:L[k]?=some x):addN n (L.drop k) s=addN n (L.drop (k + 1)) (if x ∈ s.1 n then s else (iM s.1 n (bT (s.1 n) x),true)):=by obtain ⟨h1,h2⟩:=aS.1 h;rw [List.drop_eq_getElem_cons h1,h2,addN];split <;> rfl
def ShE (E p u q C:Nat) (lo:Option Addr) (lc:Nat) (gr:Gj) (a:Gv) (LD:Nx) (s:Nx × Bool) (w:World) (e:Ending) (w':World):Prop:=e=.returned (.tuple #[])/\Sh w' E p u q C lo lc gr a LD s/\But (fun b=>b=p\/b=q) w w'
theorem A2D (gr:Gj) (a:Gv) (hg:Good gr) (E p u q C:Nat) (lo:Option Addr) (lc:Nat) (LD:Nx) (n:Nat) (hn:n < gr.ns.length) (L:List Int) (v:Value) (hl:(L.length:Int)<=1000) (hL:∀ x ∈ L,0<=x/\x < (gr.ns.length:Int)) (s:Nx × Bool) (w:World) (hS:Sh w E p u q C lo lc gr a LD s) (hv:aO w C v L) :
  Calls Tryz.prog 43 #[.pointer (some ⟨p,0,none⟩),.int .i64 (n:Int),v] w (ShE E p u q C lo lc gr a LD (addN n L s) w):=by
 have HS0:=aH hS;have HI0:=aH hv;have HLL:=aH hL;have HNN:=aH hn;have hn160:=hg.len;obtain ⟨ao,cap,rfl,hcap,-⟩:=hv;obtain ⟨m,hm⟩:∃ m,L.length=m:=⟨_,rfl⟩;have HM:=aH hm;obtain ⟨RES,hRES⟩:∃ z,addN n L s=z:=⟨_,rfl⟩;have HRES:=aH (show RES=addN n (L.drop 0) s from by rw [<- hRES];rfl);obtain ⟨nn,hnn⟩:∃ z,gr.ns.length=z:=⟨_,rfl⟩;have HLN:=aH hnn;rw [hnn] at hn hn160;rw [hm] at hl hcap;rw [hm,hRES];have HI1:=aH (show aO w C (.slice ao m cap) L from by rw [<- hm];exact HI0.o);have hn1:decide ((n:Int) < (nn:Int))=true:=aT (by omega);have hn2:decide (n < nn)=true:=aT hn;clear hS hL hm hRES hg hnn HI0;unfold ShE;go_enter Tryz.func43,Tryz.ntmps43;go_wp2_with fail
 go_loopw [12] (fun v12 wr=>∃ (k:Nat) (t:Nx × Bool),v12=.int .i64 (k:Int)/\(k:Int)<=m/\aQ (RES=addN n (L.drop k) t)/\aQ (Sh wr E p u q C lo lc gr a LD t)/\aQ (But (fun b=>b=p\/b=q) w wr)) (fun v12 _=>m - (intOf v12).toNat)
 case atStart=>exact ⟨0,s,rfl,by omega,HRES,HS0,aH (But.refl _ _)⟩
 case round =>
  obtain ⟨k,t,rfl,hk,HR,HS,HB⟩:=hrel;by_cases hkm:(k:Int) < m
  ·
   have hk1:decide ((k:Int) < (m:Int))=true:=aT hkm;have hk2:decide (k < m)=true:=aT (by omega);have hw1:IntKind.i64.wrap ((k:Int) + 1)=(k:Int) + 1:=wI;obtain ⟨x,hx⟩:∃ x,L[k]?=some x:=⟨_,aG (by have:=HM.o;omega)⟩;have HST:=aH (HR.o.trans (A6o (n:=n) (s:=t) hx));have hxr:=HLL.o x (aM hx);have HXR:=aH hxr;have hII:aO wr C (.slice ao m cap) L:=HI1.o.but HB.o (fun b hc _ e=>by have:=HS0.o.pc;have:=HS0.o.qc;rcases e with e | e <;> omega);obtain ⟨g,off,hao,hgl,c0⟩:∃ g off,ao=some ⟨g,off,none⟩/\g < wr.heap.size/\wr.cell? ⟨g,off + k,none⟩=some (.int .i64 x):=(by obtain ⟨ao1,c1,e1,-,hf⟩:=hII;injection e1 with e1 e2 e3;obtain ⟨g,off,e,h1,-,h3⟩:=hf k (by have:=HM.o;omega);refine ⟨g,off,e1.trans e,h1,?_⟩;rw [h3,List.getD_eq_getElem?_getD,hx];rfl);subst hao;obtain ⟨V,hV1,hV2⟩:=HS.o.nx;have HV1:=aH hV1;have HV2:=aH hV2;have hrow:=HS.o.own;have p7:wr.cell? ⟨p,7,none⟩=some (.slice (some ⟨q,0,none⟩) nn nn):=(by rw [<- HLN.o];exact hrow.cell 7);have pl:=hrow.lt;have q0:wr.cell? ⟨q,n,none⟩=some (V n):=(by rw [hV1.cell n,List.getElem?_map,List.getElem?_range HNN.o];rfl);have ql:=hV1.lt;have HBS:=aH (YO (t.1 n) x (HS.o.ok n).1 (by have:=HS.o.len n;have:=HLN.o;omega) (V n) C wr (hV2 n HNN.o));have HPU:=aH (fun W (h:aO W C (V n) (t.1 n))=>pJ (t.1 n) x (by have:=HS.o.len n;have:=HLN.o;omega) (V n) C W h);clear hx hxr hII hV1 hV2 hrow;go_wp2_with fail;refine HBS.o.mono ?_;rintro e w2 ⟨⟨ix,he⟩,hw⟩;subst he;subst hw;by_cases hxm:x ∈ t.1 n
   ·
    have hd:decide (x ∈ t.1 n)=true:=aT hxm;have HR2:=aH (show RES=addN n (L.drop (k + 1)) t from by rw [HST.o,if_pos hxm]);rw [hd];go_wp2
    go_roundw
    case rel=>exact ⟨k + 1,t,by go_num,by omega,HR2,HS,HB⟩
    case measure=>simp [intOf];omega
   ·
    have hd:decide (x ∈ t.1 n)=false:=aF hxm;have HR2:=aH (show RES=addN n (L.drop (k + 1)) (iM t.1 n (bT (t.1 n) x),true) from by rw [HST.o,if_neg hxm]);rw [hd];go_upto_region 5 with fail;refine bX (fun Wx=>p < Wx.heap.size/\Wx.cell? ⟨p,7,none⟩=some (.slice (some ⟨q,0,none⟩) nn nn)/\q < Wx.heap.size/\Wx.cell? ⟨q,n,none⟩=some (V n)) 16 (by kernel_rfl) ?_;have HSS:=aH (show p < (World.drew w2).heap.size/\(World.drew w2).cell? ⟨p,7,none⟩=some (.slice (some ⟨q,0,none⟩) nn nn)/\q < (World.drew w2).heap.size/\(World.drew w2).cell? ⟨q,n,none⟩=some (V n) from ⟨pl,p7,ql,q0⟩);clear p7 pl q0 ql c0 hgl;refine aI.take 0 rfl (v:=?_) (Or.inl ⟨by rfl,?_⟩) HSS.o ?_;rotate_left
    · intro Wx hWx;obtain ⟨r0,r1,r2,r3⟩:=hWx;go_simp;try with_reducible rfl
    go_simp;refine aI.take 1 rfl (v:=?_) (Or.inl ⟨by rfl,?_⟩) HSS.o ?_;rotate_left
    · intro Wx hWx;obtain ⟨r0,r1,r2,r3⟩:=hWx;go_simp;try with_reducible rfl
    go_simp;refine aI.take 2 rfl (v:=?_) (Or.inl ⟨by rfl,?_⟩) HSS.o ?_;rotate_left
    · intro Wx hWx;obtain ⟨r0,r1,r2,r3⟩:=hWx;go_simp;try with_reducible rfl
    go_simp;refine aI.take 3 rfl (v:=?_) (Or.inl ⟨by rfl,?_⟩) HSS.o ?_;rotate_left
    · intro Wx hWx;obtain ⟨r0,r1,r2,r3⟩:=hWx;go_simp;try with_reducible rfl
    go_simp;refine aI.take 4 rfl (v:=?_) (Or.inl ⟨by rfl,?_⟩) HSS.o ?_;rotate_left
    · intro Wx hWx;obtain ⟨r0,r1,r2,r3⟩:=hWx;go_simp;try with_reducible rfl
    go_simp;refine aI.pure 5 rfl (v:=?_) (Or.inl ⟨by rfl,?_⟩) HSS.o ?_;rotate_left
    · intro Wx hWx;go_simp;try with_reducible rfl
    go_simp;refine aI.take 6 rfl (v:=?_) (Or.inl ⟨by rfl,?_⟩) HSS.o ?_;rotate_left
    · intro Wx hWx;obtain ⟨r0,r1,r2,r3⟩:=hWx;go_simp;try with_reducible rfl
    go_simp;refine aI.take 7 rfl (v:=?_) (Or.inl ⟨by rfl,?_⟩) HSS.o ?_;rotate_left
    · intro Wx hWx;obtain ⟨r0,r1,r2,r3⟩:=hWx;go_simp;try with_reducible rfl
    go_simp;refine aI.take 8 rfl (v:=?_) (Or.inl ⟨by rfl,?_⟩) HSS.o ?_;rotate_left
    · intro Wx hWx;obtain ⟨r0,r1,r2,r3⟩:=hWx;go_simp;try with_reducible rfl
    go_simp;refine aI.take 9 rfl (v:=?_) (Or.inl ⟨by rfl,?_⟩) HSS.o ?_;rotate_left
    · intro Wx hWx;obtain ⟨r0,r1,r2,r3⟩:=hWx;go_simp;try with_reducible rfl
    go_simp;refine aI.take 10 rfl (v:=?_) (Or.inl ⟨by rfl,?_⟩) HSS.o ?_;rotate_left
    · intro Wx hWx;obtain ⟨r0,r1,r2,r3⟩:=hWx;go_simp;try with_reducible rfl
    go_simp;refine aI.take 11 rfl (v:=?_) (Or.inl ⟨by rfl,?_⟩) HSS.o ?_;rotate_left
    · intro Wx hWx;obtain ⟨r0,r1,r2,r3⟩:=hWx;go_simp;try with_reducible rfl
    go_simp;refine aI.take 12 rfl (v:=?_) (Or.inl ⟨by rfl,?_⟩) HSS.o ?_;rotate_left
    · intro Wx hWx;obtain ⟨r0,r1,r2,r3⟩:=hWx;go_simp;try with_reducible rfl
    go_simp;refine aI.take 13 rfl (v:=?_) (Or.inl ⟨by rfl,?_⟩) HSS.o ?_;rotate_left
    · intro Wx hWx;obtain ⟨r0,r1,r2,r3⟩:=hWx;go_simp;try with_reducible rfl
    go_simp;refine aI.one (i:=14) (by kernel_rfl) (bB (f:=69) (vs:=#[V n,.int .i64 x]) rfl (by kernel_rfl) (by go_simp) ((HPU.o (World.drew w2) (HV2.o n HNN.o)).mono ?_));rintro e w3 ⟨v3,he,hI3,hb3⟩;refine ⟨_,he,?_⟩;have HS3:=aH ((HS.o.below (Below.refl w2.heap.size w2).drew).below hb3);have HB3:=aH (HB.o.drew.then_below hb3);have HI3:=aH (hI3.mono HS.o.sz);have HO3:=aH (HV1.o.on_drew.under hb3 HV1.o.lt);obtain ⟨ao3,n3,cap3,rfl⟩:∃ ao n c,v3=.slice ao n c:=(by obtain ⟨x1,x2,x3,-⟩:=hI3;exact ⟨x1,_,x2,x3⟩);refine ⟨.inr (.inr ⟨aL HSS.o.1 hb3.size,aC HSS.o.2.1 hb3,aL HSS.o.2.2.1 hb3.size,aC HSS.o.2.2.2 hb3⟩),?_⟩;have q0:=aC HSS.o.2.2.2 hb3;have p7:=aC HSS.o.2.1 hb3;have ql:=HO3.o.lt;have qf:w3.frozen? ⟨q,n,none⟩=false:=HO3.o.thaw n;have pf:w3.frozen? ⟨p,8,none⟩=false:=HS3.o.own.thaw 8;have p8:w3.cell? ⟨p,8,none⟩=some (.bool t.2):=HS3.o.own.cell 8;have pl:=HS3.o.own.lt;clear hb3 hI3 HSS;go_simp;have HSW:=aH (show p < w3.heap.size/\w3.cell? ⟨p,7,none⟩=some (.slice (some ⟨q,0,none⟩) nn nn)/\q < w3.heap.size/\w3.cell? ⟨q,n,none⟩=some (V n) from ⟨pl,p7,ql,q0⟩);refine aI.one (i:=15) (by kernel_rfl) (aY (v:=.pointer (some ⟨q,n,none⟩)) (w':=w3) rfl (by kernel_rfl) (by go_simp;try rfl) ?_);refine ⟨.inr (.inr HSW.o),?_⟩;go_simp;refine aI.one (i:=16) (by kernel_rfl) (eX (w':=w3.setCell ⟨q,n,none⟩ (.slice ao3 n3 cap3)) rfl (by kernel_rfl) 25 (.tmp 45) (.tmp 44) rfl _ _ rfl rfl (by go_simp;try rfl) ⟨.inl rfl,?_⟩);obtain ⟨w4,hw4⟩:∃ z,w3.setCell ⟨q,n,none⟩ (.slice ao3 n3 cap3)=z:=⟨_,rfl⟩;have HW4:=aH hw4;rw [hw4];have hbq:But (fun j=>j=q) w3 w4:=(by rw [<- hw4];exact But.put w3 q n _);have p8:=hbq.cell (fun e=>HS0.o.pq e) p8;have hrow:=HS3.o.own.but hbq HS0.o.pq;have pf:w4.frozen? ⟨p,8,none⟩=false:=hrow.thaw 8;have pl:=hrow.lt;clear hw4 hbq hrow q0 ql qf p7;go_simp;refine aI.one (i:=17) (by kernel_rfl) (aY (v:=.pointer (some ⟨p,0,none⟩)) (w':=w4) rfl (by kernel_rfl) (by go_simp;try rfl) ?_);refine ⟨.inr (.inl rfl),?_⟩;go_simp;refine aI.one (i:=18) (by kernel_rfl) (aY (v:=.pointer (some ⟨p,8,none⟩)) (w':=w4) rfl (by kernel_rfl) (by go_simp;try rfl) ?_);refine ⟨.inr (.inl rfl),?_⟩;go_simp;refine aI.one (i:=19) (by kernel_rfl) (eX (w':=w4.setCell ⟨p,8,none⟩ (.bool true)) rfl (by kernel_rfl) 4 (.tmp 47) (.const (.bool true)) rfl _ _ rfl rfl (by go_simp;try rfl) ⟨.inr (.inl rfl),?_⟩);refine aI.done (by kernel_rfl) ?_ _;have HS9:=aH (HS3.o.put (n:=n) HXR.o HI3.o);rw [HW4.o] at HS9
    have HB9:=aH (show But (fun b=>b=p\/b=q) w (w4.setCell ⟨p,8,none⟩ (.bool true)) from by
     rw [<- HW4.o]
     exact (HB3.o.trans (But.put w3 q n _) (fun g _ e=>.inr e)).trans (But.put _ p 8 _) (fun g _ e=>.inl e))
    generalize w4.setCell ⟨p,8,none⟩ (.bool true)=w9 at *;clear p8 pf pl;go_simp;try go_wp2
    go_roundw
    case rel=>exact ⟨k + 1,_,by go_num,by omega,HR2,HS9,HB9⟩
    case measure=>simp [intOf];omega
  ·
   have hk1:decide ((k:Int) < (m:Int))=false:=aF hkm;have hk2:decide (k < m)=false:=aF (by omega);have HE:=aH (show RES=t from by rw [HR.o,List.drop_of_length_le (by have:=HM.o;omega)];rfl);go_wp2
   first
    | (go_end0;rw [HE.o];exact ⟨rfl,HS.o,HB.o⟩)
    | (refine bodyPost_ret (results_none rfl _ _ _) rfl ?_;rw [HE.o];exact ⟨rfl,HS.o,HB.o⟩)
end Go.Proofs.YthddifjhoniacaaGreat
