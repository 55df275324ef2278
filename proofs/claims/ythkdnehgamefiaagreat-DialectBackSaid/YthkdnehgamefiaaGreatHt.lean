import Derived.Test.YthkdnehgamefiaaGreatHs
namespace Go.Proofs.YthkdnehgamefiaaGreat
set_option linter.unusedVariables false
set_option maxRecDepth 1000000
open Go.RowKit
theorem bD (w:World) (t:TypeId) (cs:List Value):∀ j u,cs[j]?=some u->(w.alloc (.cells cs.toArray t)).cell? ((⟨w.heap.size,0,none⟩:Addr).add j)=some u:=fun j u h=>by rw [Addr.add_lit,Nat.zero_add,(Own.fresh w t cs).cell j,h]
theorem Win.has {S:Nat->Prop} {e:TypeId} {size n:Nat} {w:World} {v:Value} {xs:List Value} (h:Win S e size w v n xs) (hn:0 < n):∃ g off cap,v=.slice (some ⟨g,off,none⟩) n cap/\S g/\n<=cap/\g < w.heap.size:=by
 obtain ⟨h1,h2⟩:=h;rcases h2 with ⟨rfl,rfl⟩ | ⟨g,off,cap,cur,rfl,hg,hh,hn,r⟩
 · omega
 · exact ⟨g,off,cap,rfl,hg,hn,lt_of_block hh⟩
open Go.Sort
def fM (w:World) (R:Nat->Prop):Nat->Option Addr->List Ex->Prop
 | 0,_,K=>K=[]
 | n + 1,ao,K=>∀ (k:Nat) (x:Ex),K[k]?=some x->∃ b off ko kc,ao=some ⟨b,off,none⟩/\b < w.heap.size/\R b ∧
   w.cell? ⟨b,off + k * 7,none⟩=some (.int .i64 x.op)/\w.cell? ⟨b,off + k * 7 + 1,none⟩=some (.string x.text) ∧
   w.cell? ⟨b,off + k * 7 + 2,none⟩=some (.int .u64 x.s0)/\w.cell? ⟨b,off + k * 7 + 3,none⟩=some (.int .u64 x.s1) ∧
   w.cell? ⟨b,off + k * 7 + 4,none⟩=some (.int .u64 x.s2)/\w.cell? ⟨b,off + k * 7 + 5,none⟩=some (.int .u64 x.s3) ∧
   w.cell? ⟨b,off + k * 7 + 6,none⟩=some (.slice ko x.kids.length kc)/\fM w R n ko x.kids
theorem fM.but {S R:Nat->Prop} {w w':World} (hb:But S w w') (hS:∀ j,j < w.heap.size->R j->¬ S j):∀ {n:Nat} {ao:Option Addr} {K:List Ex},fM w R n ao K->fM w' R n ao K
 | 0,_,_,h=>h
 | n + 1,ao,K,h=>fun k x hx=>by obtain ⟨b,off,ko,kc,e,hlt,hr,c0,c1,c2,c3,c4,c5,c6,hk⟩:=h k x hx;have hn:¬ S b:=hS b hlt hr;exact ⟨b,off,ko,kc,e,aL hlt hb.size,hr,hb.cell hn c0,hb.cell hn c1,hb.cell hn c2,hb.cell hn c3,hb.cell hn c4,hb.cell hn c5,hb.cell hn c6,fM.but hb hS hk⟩
theorem fM.mono {R T:Nat->Prop} {w:World} (hR:∀ b,b < w.heap.size->R b->T b):∀ {n:Nat} {ao:Option Addr} {K:List Ex},fM w R n ao K->fM w T n ao K
 | 0,_,_,h=>h
 | n + 1,ao,K,h=>fun k x hx=>by obtain ⟨b,off,ko,kc,e,hlt,hr,c0,c1,c2,c3,c4,c5,c6,hk⟩:=h k x hx;exact ⟨b,off,ko,kc,e,hlt,hR b hlt hr,c0,c1,c2,c3,c4,c5,c6,fM.mono hR hk⟩
theorem fM.ofE {D:Nat} {w:World}:∀ {n:Nat} {ao:Option Addr} {K:List Ex},dD w D n ao K->fM w (fun b=>D<=b/\b < w.heap.size) n ao K
 | 0,_,_,h=>h
 | n + 1,ao,K,h=>fun k x hx=>by obtain ⟨b,off,ko,kc,e,hlt,hr,c0,c1,c2,c3,c4,c5,c6,hk⟩:=h k x hx;exact ⟨b,off,ko,kc,e,hlt,⟨hr,hlt⟩,c0,c1,c2,c3,c4,c5,c6,fM.ofE hk⟩
theorem fM.toE {R:Nat->Prop} {D:Nat} {w:World} (hR:∀ b,R b->D<=b):∀ {n:Nat} {ao:Option Addr} {K:List Ex},fM w R n ao K->dD w D n ao K
 | 0,_,_,h=>h
 | n + 1,ao,K,h=>fun k x hx=>by obtain ⟨b,off,ko,kc,e,hlt,hr,c0,c1,c2,c3,c4,c5,c6,hk⟩:=h k x hx;exact ⟨b,off,ko,kc,e,hlt,hR b hr,c0,c1,c2,c3,c4,c5,c6,fM.toE hR hk⟩
theorem fM.more {R:Nat->Prop} {w:World}:∀ {n:Nat} {ao:Option Addr} {K:List Ex},fM w R n ao K->fM w R (n + 1) ao K
 | 0,ao,K,h=>fun k x hx=>by have h:K=[]:=h;subst h;simp at hx
 | n + 1,ao,K,h=>fun k x hx=>by obtain ⟨b,off,ko,kc,e,hlt,hne,c0,c1,c2,c3,c4,c5,c6,hk⟩:=h k x hx;exact ⟨b,off,ko,kc,e,hlt,hne,c0,c1,c2,c3,c4,c5,c6,fM.more hk⟩
theorem fM.upto {R:Nat->Prop} {w:World} {n:Nat} {ao:Option Addr} {K:List Ex} (h:fM w R n ao K):∀ m,n<=m->fM w R m ao K
 | 0,hm=>by
  obtain rfl:n=0:=by omega
  exact h
 | m + 1,hm=>by
  by_cases e:n=m + 1
  · rw [<- e];exact h
  · exact fM.more (fM.upto h m (by omega))
abbrev Zx:=Ex × Option Addr × Nat
def iY (z:Zx):List Value:=[.int .i64 z.1.op,.string z.1.text,.int .u64 z.1.s0,.int .u64 z.1.s1,.int .u64 z.1.s2,.int .u64 z.1.s3,.slice z.2.1 z.1.kids.length z.2.2]
theorem YB:∀ (Z:List Zx) (k j:Nat) (z:Zx),Z[k]?=some z->j < 7->(Z.flatMap iY)[k * 7 + j]?=(iY z)[j]?
 | [],k,j,h,hk,hj=>by simp at hk
 | x :: L,0,j,h,hk,hj=>by simp at hk;subst hk;rw [List.flatMap_cons,List.getElem?_append_left (by show 0 * 7 + j < 7;omega),Nat.zero_mul,Nat.zero_add]
 | x :: L,k + 1,j,h,hk,hj=>by rw [List.flatMap_cons,List.getElem?_append_right (by show 7<=(k + 1) * 7 + j;omega),show (k + 1) * 7 + j - (iY x).length=k * 7 + j by show (k + 1) * 7 + j - 7=_;omega];exact YB L k j h (by simpa using hk) hj
def XS (G:Prop) (w:World) (D:Nat) (v:Value) (K:List Ex):Prop :=
 ∃ (R S:Nat->Prop) (Z:List Zx) (n:Nat),(∀ b,R b\/S b->D<=b/\b < w.heap.size)/\(∀ b,R b->¬ S b)/\Z.map (·.1)=K ∧
  Win S 32 7 w v Z.length (Z.flatMap iY)/\(G->∀ z ∈ Z,fM w R n z.2.1 z.1.kids)
theorem XS.keep {G:Prop} {w w':World} {D:Nat} {v:Value} {K:List Ex} {U:Nat->Prop} (h:XS G w D v K) (hb:But U w w') (hU:∀ b,U b->b < D):XS G w' D v K:=by
 obtain ⟨R,S,Z,n,h1,h2,h3,h4,h5⟩:=h;refine ⟨R,S,Z,n,fun b hb'=>⟨(h1 b hb').1,aL (h1 b hb').2 hb.size⟩,h2,h3,h4.keep hb fun g _ hs hu=>?_,fun hG z hz=>(h5 hG z hz).but hb fun g _ hr hu=>?_⟩
 · have:=hU g hu;have:=(h1 g (.inr hs)).1;omega
 · have:=hU g hu;have:=(h1 g (.inl hr)).1;omega
theorem XS.below {G:Prop} {w w':World} {D:Nat} {v:Value} {K:List Ex} (h:XS G w D v K) (hb:Below w.heap.size w w'):XS G w' D v K :=
 h.keep (U:=fun _=>False) (But.of_below hb) fun _ h=>h.elim
theorem XS.imp {G G':Prop} {w:World} {D:Nat} {v:Value} {K:List Ex} (h:XS G w D v K) (hG:G'->G):XS G' w D v K:=by obtain ⟨R,S,Z,n,h1,h2,h3,h4,h5⟩:=h;exact ⟨R,S,Z,n,h1,h2,h3,h4,fun g=>h5 (hG g)⟩
theorem XS.form {G:Prop} {w:World} {D:Nat} {v:Value} {K:List Ex} (h:XS G w D v K):∃ ao cap,v=.slice ao K.length cap:=by obtain ⟨R,S,Z,n,h1,h2,rfl,h4,h5⟩:=h;obtain ⟨ao,cap,hv,-⟩:=h4.form;exact ⟨ao,cap,by rw [hv,List.length_map]⟩
theorem XS.first {G:Prop} {w:World} {D B n:Nat} {x:Ex} {ko:Option Addr} {kc:Nat} (hB:Own w B 32 (iY (x,ko,kc))) (hD:D<=B) (hE:G->fM w (fun b=>D<=b/\b < B) n ko x.kids):XS G w D (.slice (some ⟨B,0,none⟩) 1 1) [x]:=by
 refine ⟨fun b=>D<=b/\b < B,fun b=>b=B,[(x,ko,kc)],n,?_,fun b h e=>by omega,rfl,⟨rfl,.inr ⟨B,0,1,_,rfl,rfl,hB,Nat.le_refl _,by unfold maxLen;omega,by simp [iY],?_⟩⟩,fun hG z hz=>?_⟩
 ·
  intro b hb;have:=hB.lt;rcases hb with hb | hb
  · omega
  · omega
 · simp [iY]
 · rw [List.mem_singleton] at hz;subst hz;exact hE hG
theorem XS.snoc {G:Prop} {w0 w1 w2 w3:World} {D n n' g:Nat} {v':Value} {R S:Nat->Prop} {Z:List Zx} {x:Ex} {ko:Option Addr} {kc:Nat} (hg:g < D) (hD:D<=w0.heap.size)
  (h1:∀ b,R b\/S b->D<=b/\b < w0.heap.size) (h2:∀ b,R b->¬ S b) (h5:G->∀ z ∈ Z,fM w0 R n z.2.1 z.1.kids)
  (hb1:But (fun j=>j=g) w0 w1) (hE:G->dD w1 w0.heap.size n' ko x.kids) (hb2:Below w1.heap.size w1 w2)
  (hw:Win (fun b=>S b\/w2.heap.size<=b) 32 7 w3 v' (Z.length + 1) (Z.flatMap iY ++ iY (x,ko,kc))) (hb3:But S w2 w3):XS G w3 D v' (Z.map (·.1) ++ [x]):=by
 have s1:=hb1.size;have s2:=hb2.size;have s3:=hb3.size
 have hkeep:∀ (Q:Nat->Prop) (m:Nat) (ao:Option Addr) (K:List Ex),(∀ b,Q b->b ≠ g/\¬ S b)->fM w0 Q m ao K->fM w3 Q m ao K:=fun Q m ao K hq h =>
  ((h.but hb1 fun j _ hj=>(hq j hj).1).but (But.of_below (S:=fun _=>False) hb2) fun _ _ _ h=>h).but hb3 fun j _ hj=>(hq j hj).2
 have hkeep2:∀ (Q:Nat->Prop) (m:Nat) (ao:Option Addr) (K:List Ex),(∀ b,Q b->¬ S b)->fM w1 Q m ao K->fM w3 Q m ao K:=fun Q m ao K hq h =>
  (h.but (But.of_below (S:=fun _=>False) hb2) fun _ _ _ h=>h).but hb3 fun j _ hj=>hq j hj
 refine ⟨fun b=>R b\/(w0.heap.size<=b/\b < w1.heap.size),fun b=>(S b\/w2.heap.size<=b)/\b < w3.heap.size,Z ++ [(x,ko,kc)],max n n',?_,?_,by simp,?_,?_⟩
 ·
  intro b hb;rcases hb with (hb | hb) | ⟨hb | hb,hlt⟩
  · have:=h1 b (.inl hb);omega
  · omega
  · have:=h1 b (.inr hb);omega
  · omega
 ·
  rintro b hb ⟨hs,hlt⟩;rcases hb with hb | hb
  ·
   rcases hs with hs | hs
   · exact h2 b hb hs
   · have:=h1 b (.inl hb);omega
  ·
   rcases hs with hs | hs
   · have:=h1 b (.inr hs);omega
   · omega
 ·
  rw [List.length_append,List.flatMap_append];have e:List.flatMap iY [(x,ko,kc)]=iY (x,ko,kc):=by simp
  rw [e];exact hw.mono fun b hb hs=>⟨hs,hb⟩
 ·
  intro hG z hz;rw [List.mem_append,List.mem_singleton] at hz;rcases hz with hz | rfl
  · exact ((hkeep R n _ _ (fun b hb=>⟨fun e=>by have:=h1 b (.inl hb);omega,h2 b hb⟩) (h5 hG z hz)).mono (fun b _ h=>.inl h)).upto _ (Nat.le_max_left _ _)
  · exact ((hkeep2 _ n' _ _ (fun b hb hs=>by have:=h1 b (.inr hs);omega) (fM.ofE (hE hG))).mono (fun b _ h=>.inr h)).upto _ (Nat.le_max_right _ _)
theorem XS.at_ {G:Prop} {w:World} {D m c k:Nat} {ao:Option Addr} {K:List Ex} {x:Ex} (h:XS G w D (.slice ao m c) K) (hx:K[k]?=some x):∃ b off ko kc,ao=some ⟨b,off,none⟩/\b < w.heap.size/\D<=b ∧
   w.cell? ⟨b,off + k * 7,none⟩=some (.int .i64 x.op)/\w.cell? ⟨b,off + k * 7 + 1,none⟩=some (.string x.text) ∧
   w.cell? ⟨b,off + k * 7 + 2,none⟩=some (.int .u64 x.s0)/\w.cell? ⟨b,off + k * 7 + 3,none⟩=some (.int .u64 x.s1) ∧
   w.cell? ⟨b,off + k * 7 + 4,none⟩=some (.int .u64 x.s2)/\w.cell? ⟨b,off + k * 7 + 5,none⟩=some (.int .u64 x.s3) ∧
   w.cell? ⟨b,off + k * 7 + 6,none⟩=some (.slice ko x.kids.length kc)/\(G->∃ n,dD w D n ko x.kids):=by
 obtain ⟨R,S,Z,n,h1,h2,rfl,h4,h5⟩:=h;have hk:k < Z.length:=by have:=(aS.1 hx).1;simpa using this
 obtain ⟨z,hz⟩:∃ z,Z[k]?=some z:=⟨_,aG hk⟩;obtain rfl:z.1=x:=by rw [List.getElem?_map,hz] at hx;simpa using hx
 obtain ⟨ao',cap,e1,_,_,hf⟩:=h4.form;injection e1 with e1 e2 e3;subst e1;have get:∀ j,j < 7->∃ g off,ao=some ⟨g,off,none⟩/\S g/\g < w.heap.size/\w.cell? ⟨g,off + (k * 7 + j),none⟩=(iY z)[j]?:=fun j hj=>by obtain ⟨g,off,e,hs,hg,hc,_⟩:=hf (k * 7 + j) (by omega);exact ⟨g,off,e,hs,hg,by rw [hc,YB Z k j z hz hj]⟩
 obtain ⟨g,off,e,hs,hg,c0⟩:=get 0 (by omega);subst e;have get2:∀ j,j < 7->w.cell? ⟨g,off + (k * 7 + j),none⟩=(iY z)[j]?:=fun j hj=>by obtain ⟨g',off',e,_,_,hc⟩:=get j hj;injection e with e;injection e with e4 e5;subst e4 e5;exact hc
 exact ⟨g,off,z.2.1,z.2.2,rfl,hg,(h1 g (.inr hs)).1,c0,get2 1 (by omega),get2 2 (by omega),get2 3 (by omega),get2 4 (by omega),get2 5 (by omega),get2 6 (by omega),fun hG=>⟨n,(h5 hG z (aM hz)).toE fun b hb=>(h1 b (.inl hb)).1⟩⟩
theorem XS.hasE {G:Prop} {w:World} {D m c:Nat} {ao:Option Addr} {K:List Ex} (h:XS G w D (.slice ao m c) K) (hG:G):∃ n,dD w D n ao K:=by
 have hh:=h;obtain ⟨R,S,Z,n,h1,h2,rfl,h4,h5⟩:=hh;refine ⟨n + 1,fun k x hx=>?_⟩;have hk:k < Z.length:=by have:=(aS.1 hx).1;simpa using this
 obtain ⟨z,hz⟩:∃ z,Z[k]?=some z:=⟨_,aG hk⟩;obtain rfl:z.1=x:=by rw [List.getElem?_map,hz] at hx;simpa using hx
 obtain ⟨ao',cap,e1,_,_,hf⟩:=h4.form;injection e1 with e1 e2 e3;subst e1;have get:∀ j,j < 7->∃ g off,ao=some ⟨g,off,none⟩/\S g/\g < w.heap.size/\w.cell? ⟨g,off + (k * 7 + j),none⟩=(iY z)[j]?:=fun j hj=>by obtain ⟨g,off,e,hs,hg,hc,_⟩:=hf (k * 7 + j) (by omega);exact ⟨g,off,e,hs,hg,by rw [hc,YB Z k j z hz hj]⟩
 obtain ⟨g,off,e,hs,hg,c0⟩:=get 0 (by omega);subst e;have get2:∀ j,j < 7->w.cell? ⟨g,off + (k * 7 + j),none⟩=(iY z)[j]?:=fun j hj=>by obtain ⟨g',off',e,_,_,hc⟩:=get j hj;injection e with e;injection e with e4 e5;subst e4 e5;exact hc
 exact ⟨g,off,z.2.1,z.2.2,rfl,hg,(h1 g (.inr hs)).1,c0,get2 1 (by omega),get2 2 (by omega),get2 3 (by omega),get2 4 (by omega),get2 5 (by omega),get2 6 (by omega),(h5 hG z (aM hz)).toE fun b hb=>(h1 b (.inl hb)).1⟩
theorem Mi:(Tryz.prog.info? 32).map (fun i=>(i.zero,i.size,i.bytes))=some (some (.agg #[.int .i64 0,.string ⟨#[]⟩,.int .u64 0,.int .u64 0,.int .u64 0,.int .u64 0,.slice none 0 0]),7,80):=by kernel_rfl
def sliceLen:Value->Nat | .slice _ n _=>n | _=>0
def lsL (c:Nat->Bool) (nx:Nat->Rs):Nat->List Ex->Nat->Except (Int × Int) (List Ex × Nat)
 | 0,A,k=>.ok (A,k)
 | f + 1,A,k=>if c k=true then (match nx k with | .ok (e,m)=>lsL c nx f (A ++ [e]) m | .error e=>.error e) else .ok (A,k)
theorem A6T (L:List Tok) (pre:Nat->Rs):∀ f A k,yY L pre f A k=lsL (jC L) pre f A k
 | 0,A,k=>rfl
 | f + 1,A,k=>by
  unfold yY lsL
  cases pre k with
  | error e=>rfl
  | ok p =>
   obtain ⟨e,m⟩:=p;simp only [A6T L pre f]
theorem A9Y (L:List Tok) (sq:Nat->Rs):∀ f A k,chL L sq f A k=lsL (fun k=>isS L k [47]) (fun k=>sq (k + 1)) f A k
 | 0,A,k=>rfl
 | f + 1,A,k=>by
  unfold chL lsL
  cases sq (k + 1) with
  | error e=>rfl
  | ok p =>
   obtain ⟨e,m⟩:=p;simp only [A9Y L sq f]
def Ox (op:Int):Except (Int × Int) (List Ex × Nat)->Rs
 | .error e=>.error e
 | .ok (K,m)=>.ok (Fa op K,m)
def lsO (c:Nat->Bool) (n:Nat) (nx:Nat->Rs):Rs->Except (Int × Int) (List Ex × Nat)
 | .error e=>.error e
 | .ok (e,m)=>lsL c nx n [e] m
theorem Ie (L:List Tok) (pre:Nat->Rs) (k:Nat):lC L pre k=Ox 4 (lsO (jC L) (L.length + 1) pre (pre k)):=by
 unfold lC
 cases pre k with
 | error e=>rfl
 | ok p =>
  obtain ⟨e,m⟩:=p;show (match yY L pre (L.length + 1) [e] m with | .error e=>Except.error e | .ok (K,m')=>.ok (Fa 4 K,m'))=_;rw [A6T];show _=Ox 4 (lsL _ _ _ _ _)
  cases lsL (jC L) pre (L.length + 1) [e] m <;> rfl
theorem Px (L:List Tok) (sq:Nat->Rs) (k:Nat):chO L sq k=Ox 5 (lsO (fun k=>isS L k [47]) (L.length + 1) (fun k=>sq (k + 1)) (sq k)):=by
 unfold chO
 cases sq k with
 | error e=>rfl
 | ok p =>
  obtain ⟨e,m⟩:=p;show (match chL L sq (L.length + 1) [e] m with | .error e=>Except.error e | .ok (K,m')=>.ok (Fa 5 K,m'))=_;rw [A9Y];show _=Ox 5 (lsL _ _ _ _ _)
  cases lsL (fun k=>isS L k [47]) (fun k=>sq (k + 1)) (L.length + 1) [e] m <;> rfl
theorem VN {c:Nat->Bool} {nx:Nat->Rs} {f k:Nat} {A:List Ex} (hf:0 < f):lsL c nx f A k=if c k=true then (match nx k with | .ok (e,m)=>lsL c nx (f - 1) (A ++ [e]) m | .error e=>.error e) else .ok (A,k):=by obtain ⟨f,rfl⟩:∃ q,f=q + 1:=⟨f - 1,by omega⟩;rfl
def LsQ (L:List Tok) (c:Nat->Bool) (nx:Nat->Rs) (RS:Except (Int × Int) (List Ex × Nat)) (K:List Ex) (k:Nat):Option (Int × Int)->Prop
 | none=>K.length<=k/\k<=L.length/\∃ f,lsL c nx f K k=RS/\L.length < f + k
 | some e=>e.1 ≠ 0/\RS=.error e
def Pj (RS:Except (Int × Int) (List Ex × Nat)) (K:List Ex) (k:Nat):Option (Int × Int)->Prop
 | none=>RS=.ok (K,k)
 | some e=>e.1 ≠ 0/\RS=.error e
theorem jU.ends {w w9:World} {g lc D k:Nat} {lo:Option Addr} {L:List Tok} {RS:Except (Int × Int) (List Ex × Nat)} {K:List Ex} {F:Option (Int × Int)} {op:Int} {ko:Option Addr} (hR:Rd w9 g lo lc L k F) (hF:Pj RS K k F)
  (hE:F=none->∃ n,dD w9 D n ko (Fa op K).kids):jU w g lo lc L (Ox op RS) D (Fa op K) ko w9:=by
 cases F with
 | none =>
  have hF:RS=.ok (K,k):=hF;subst hF;exact ⟨hR,rfl,hE rfl⟩
 | some e =>
  have hF2:RS=.error e:=hF.2;subst hF2;exact ⟨hF.1,k,hR⟩
theorem uM {op:Int} {K:List Ex} (h:K.length ≠ 1):Fa op K=.mk op ⟨#[]⟩ 0 0 0 0 K:=by
 match K,h with
 | [],_=>rfl
 | [x],h=>exact absurd rfl h
 | x :: y :: r,_=>rfl
theorem Rh {L:List Tok} {k:Nat} (h:jC L k=true):k < L.length:=by
 rcases Nat.lt_or_ge k L.length with h1 | h1
 · exact h1
 · unfold jC isS at h;rw [Ol h1] at h;simp [tk0] at h
end Go.Proofs.YthkdnehgamefiaaGreat
