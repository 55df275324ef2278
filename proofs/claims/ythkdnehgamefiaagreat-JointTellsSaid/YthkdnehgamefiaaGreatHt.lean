import Derived.Test.YthkdnehgamefiaaGreatHs
namespace Go.Proofs.YthkdnehgamefiaaGreat
set_option linter.unusedVariables false
set_option maxHeartbeats 1600000
set_option maxRecDepth 1000000
open Go.RowKit
theorem LW {P:Program} (w:World) (t ty:TypeId)
  (S:Nat->Prop) (e:TypeId) (i:TypeInfo) (z:Value) (size bytes:Nat) (h1:P.underlying t=some (.slice e)) (h2:P.info? e=some i) (h3:i.zero=some z) (h4:i.size=size) (h5:i.bytes=bytes) (h6:z.cells.size=size) (h7:0 < size)
  (v:Value) (n:Nat) (xs:List Value) (hown:Win S e size w v n xs)
  (ad:Addr) (m c:Nat) (news:List Value) (hn:news.length=m * size) (hc:∀ j u,news[j]?=some u->w.cell? (ad.add j)=some u) (h1c:∀ u ∈ news,u.oneCell'=true)
  (b1:n + m<=maxLen) (b2:(n + m) * bytes<=140737488355328) :
  ∃ v' w',(Builtin.append_ #[t,t] ty #[v,.slice (some ad) m c]).run P w=.ok v' w'/\Win (fun g=>S g\/w.heap.size<=g) e size w' v' (n + m) (xs ++ news)/\But S w w':=by
 obtain ⟨hl,hcase⟩:=hown;rcases hcase with ⟨rfl,rfl⟩ | ⟨g,off,cap,cur,rfl,hS,hh,hnc,hcm,hsz,ht⟩
 · obtain ⟨v',w',hr,hown',hgrow,_⟩:=run_append_own (P:=P) w w.heap.size t ty e i z size bytes h1 h2 h3 h4 h5 h6 h7 _ 0 xs ⟨hl,.inl ⟨rfl,rfl⟩⟩ ad m c news hn hc h1c b1 b2 (Nat.le_refl _);exact ⟨v',w',hr,Win.of_owns hown' fun g hg _=>.inr hg,(But.refl S w).grown hgrow fun k hk=>by simp [Value.ownBlock] at hk⟩
 ·
  have hxs:∀ j u,xs[j]?=some u->w.cell? ⟨g,off + j,none⟩=some u:=fun j u hj=>by rw [cell_of_row w g _ cur e (0,0) hh,<- hj,<- ht,List.getElem?_take,if_pos (by have:=(aS.1 hj).1;omega),List.getElem?_drop];simp
  have hroom:n + m<=cap->off + n * size + news.length<=cur.size:=fun hr=>by have:=Nat.mul_le_mul_right size hr;rw [hn,Nat.add_assoc,<- Nat.add_mul];omega
  by_cases hr:n + m<=cap
  ·
   have hr2:=hroom hr;subst h4
   have hrun:=run_append_room_cells (P:=P) w t ty e i h1 h2 g off n cap ad m c news hn hc h1c hr
    (fun j hj=>by rw [cell_of_row w g _ cur e (0,0) hh,Array.getElem?_eq_getElem (by omega)];rfl) (fun j hj=>frozen_of_row w g _ cur e hh)
   obtain ⟨cur',e1,e2,e3,e4⟩:=vS g e news (off + n * i.size) w cur hh;refine ⟨_,_,hrun,⟨by rw [List.length_append,hl,hn,Nat.add_mul],.inr ⟨g,off,cap,cur',rfl,.inl hS,e1,hr,hcm,by omega,?_⟩⟩,(But.refl S w).grown e4 fun k hk _=>by cases hk;exact hS⟩;apply List.ext_getElem?;intro j;rw [List.getElem?_take,List.getElem?_drop,Array.getElem?_toList,e3];by_cases c1:j < n * i.size
   · rw [if_pos (by rw [Nat.add_mul];omega),if_neg (by omega),List.getElem?_append_left (by omega),<- ht,List.getElem?_take,if_pos c1,List.getElem?_drop];simp
   ·
    by_cases c2:j < (n + m) * i.size
    ·
     rw [if_pos c2,List.getElem?_append_right (by omega),if_pos (by rw [Nat.add_mul] at c2;omega)]
     congr 1;omega
    · rw [if_neg c2,List.getElem?_eq_none (by rw [List.length_append,hl,hn,<- Nat.add_mul];omega)]
  · obtain ⟨v',w',hrun,r1,r2⟩:=run_append_arg_grows (P:=P) w t ty e i z size bytes h1 h2 h3 h4 h5 h6 h7 ⟨g,off,none⟩ n cap xs hl (fun j u hj=>by rw [Addr.add_lit];exact hxs j u hj) ad m c news hn hc (by omega) b1 b2;exact ⟨v',w',hrun,Win.of_owns r1 fun g hg _=>.inr hg,(But.refl S w).grown r2 fun k hk=>by cases hk⟩
theorem dM {P:Program} {ops:Array Oper} {o:Oper} {a:Act} {w:World} {K:Act->World->Prop} {Q:Exit->Act->World->Prop} {E:Prop}
  (hg:o.guard=none) (s x:Operand) (t:TypeId) (hop:o.op=Op.call { callee:=Callee.builtin Builtin.append,args:=#[s,x],argTypes:=#[t,t] })
  (S:Nat->Prop) (e:TypeId) (i:TypeInfo) (z:Value) (size bytes:Nat) (h1:P.underlying t=some (.slice e)) (h2:P.info? e=some i) (h3:i.zero=some z) (h4:i.size=size) (h5:i.bytes=bytes) (h6:z.cells.size=size) (h7:0 < size)
  (v:Value) (n:Nat) (xs:List Value) (hs:a.eval s=v) (hown:Win S e size w v n xs)
  (ad:Addr) (m c:Nat) (news:List Value) (hx:a.eval x=.slice (some ad) m c) (hn:news.length=m * size) (hc:∀ j u,news[j]?=some u->w.cell? (ad.add j)=some u) (h1c:∀ u ∈ news,u.oneCell'=true)
  (b1:n + m<=maxLen) (b2:(n + m) * bytes<=140737488355328)
  (hK:∀ v' w',Win (fun g=>S g\/w.heap.size<=g) e size w' v' (n + m) (xs ++ news)->But S w w'->K (a.put o.dst v') w') :
  if Region.wanted o (yielded ops a.tmps)=true then Oper.wp P o a w K Q else E:=by
 have hw:Region.wanted o (yielded ops a.tmps)=true:=by simp [Region.wanted,hg]
 rw [if_pos hw];obtain ⟨v',w',hrun,r1,r2⟩:=LW (P:=P) w t o.type S e i z size bytes h1 h2 h3 h4 h5 h6 h7 v n xs hown ad m c news hn hc h1c b1 b2;unfold Oper.wp;simp [execOp,hop,resolve,invoke,builtin,hs,hx,hrun,Result.andThen];exact hK v' w' r1 r2
theorem bD (w:World) (t:TypeId) (cs:List Value):∀ j u,cs[j]?=some u->(w.alloc (.cells cs.toArray t)).cell? ((⟨w.heap.size,0,none⟩:Addr).add j)=some u:=fun j u h=>by rw [Addr.add_lit,Nat.zero_add,(Own.fresh w t cs).cell j,h]
theorem Win.has {S:Nat->Prop} {e:TypeId} {size n:Nat} {w:World} {v:Value} {xs:List Value} (h:Win S e size w v n xs) (hn:0 < n):∃ g off cap,v=.slice (some ⟨g,off,none⟩) n cap/\S g/\n<=cap/\g < w.heap.size:=by
 obtain ⟨h1,h2⟩:=h;rcases h2 with ⟨rfl,rfl⟩ | ⟨g,off,cap,cur,rfl,hg,hh,hn,r⟩
 · omega
 · exact ⟨g,off,cap,rfl,hg,hn,lt_of_block hh⟩
theorem Win.cellAt {S:Nat->Prop} {e:TypeId} {size n g off cap:Nat} {w:World} {xs:List Value} (h:Win S e size w (.slice (some ⟨g,off,none⟩) n cap) n xs) (j:Nat) (hj:j < n * size):w.cell? ⟨g,off + j,none⟩=xs[j]?:=by obtain ⟨ao,cap',e1,_,_,hf⟩:=h.form;obtain ⟨g',off',rfl,_,_,hc,_⟩:=hf j hj;simp only [Value.slice.injEq,Option.some.injEq,Addr.mk.injEq,and_true,true_and] at e1;obtain ⟨⟨rfl,rfl⟩,_⟩:=e1;exact hc
open Go.Sort
def fM (w:World) (R:Nat->Prop):Nat->Option Addr->List Ex->Prop
 | 0,_,K=>K=[]
 | n + 1,ao,K=>∀ (k:Nat) (x:Ex),K[k]?=some x->∃ b off ko kc,ao=some ⟨b,off,none⟩/\b < w.heap.size/\R b ∧
   w.cell? ⟨b,off + k * 7,none⟩=some (.int .i64 x.op)/\w.cell? ⟨b,off + k * 7 + 1,none⟩=some (.string x.text) ∧
   w.cell? ⟨b,off + k * 7 + 2,none⟩=some (.int .u64 x.s0)/\w.cell? ⟨b,off + k * 7 + 3,none⟩=some (.int .u64 x.s1) ∧
   w.cell? ⟨b,off + k * 7 + 4,none⟩=some (.int .u64 x.s2)/\w.cell? ⟨b,off + k * 7 + 5,none⟩=some (.int .u64 x.s3) ∧
   w.cell? ⟨b,off + k * 7 + 6,none⟩=some (.slice ko x.kids.length kc)/\fM w R n ko x.kids
theorem fM.but {S R:Nat->Prop} {w w':World} (hb:But S w w') (hS:∀ j,j < w.heap.size->R j->¬ S j):∀ {n:Nat} {ao:Option Addr} {K:List Ex},fM w R n ao K->fM w' R n ao K
 | 0,_,_,h=>h
 | n + 1,ao,K,h=>fun k x hx=>by obtain ⟨b,off,ko,kc,e,hlt,hr,c0,c1,c2,c3,c4,c5,c6,hk⟩:=h k x hx;have hn:¬ S b:=hS b hlt hr;exact ⟨b,off,ko,kc,e,aL hlt hb.size,hr,hb.cell hn c0,hb.cell hn c1,hb.cell hn c2,hb.cell hn c3,hb.cell hn c4,hb.cell hn c5,hb.cell hn c6,fM.but hb hS hk⟩
theorem fM.mono {R T:Nat->Prop} {w:World} (hR:∀ b,b < w.heap.size->R b->T b):∀ {n:Nat} {ao:Option Addr} {K:List Ex},fM w R n ao K->fM w T n ao K
 | 0,_,_,h=>h
 | n + 1,ao,K,h=>fun k x hx=>by obtain ⟨b,off,ko,kc,e,hlt,hr,c0,c1,c2,c3,c4,c5,c6,hk⟩:=h k x hx;exact ⟨b,off,ko,kc,e,hlt,hR b hlt hr,c0,c1,c2,c3,c4,c5,c6,fM.mono hR hk⟩
theorem fM.ofE {D:Nat} {w:World}:∀ {n:Nat} {ao:Option Addr} {K:List Ex},dD w D n ao K->fM w (fun b=>D<=b/\b < w.heap.size) n ao K
 | 0,_,_,h=>h
 | n + 1,ao,K,h=>fun k x hx=>by obtain ⟨b,off,ko,kc,e,hlt,hr,c0,c1,c2,c3,c4,c5,c6,hk⟩:=h k x hx;exact ⟨b,off,ko,kc,e,hlt,⟨hr,hlt⟩,c0,c1,c2,c3,c4,c5,c6,fM.ofE hk⟩
theorem fM.toE {R:Nat->Prop} {D:Nat} {w:World} (hR:∀ b,R b->D<=b):∀ {n:Nat} {ao:Option Addr} {K:List Ex},fM w R n ao K->dD w D n ao K
 | 0,_,_,h=>h
 | n + 1,ao,K,h=>fun k x hx=>by obtain ⟨b,off,ko,kc,e,hlt,hr,c0,c1,c2,c3,c4,c5,c6,hk⟩:=h k x hx;exact ⟨b,off,ko,kc,e,hlt,hR b hr,c0,c1,c2,c3,c4,c5,c6,fM.toE hR hk⟩
theorem fM.more {R:Nat->Prop} {w:World}:∀ {n:Nat} {ao:Option Addr} {K:List Ex},fM w R n ao K->fM w R (n + 1) ao K
 | 0,ao,K,h=>fun k x hx=>by have h:K=[]:=h;subst h;simp at hx
 | n + 1,ao,K,h=>fun k x hx=>by obtain ⟨b,off,ko,kc,e,hlt,hne,c0,c1,c2,c3,c4,c5,c6,hk⟩:=h k x hx;exact ⟨b,off,ko,kc,e,hlt,hne,c0,c1,c2,c3,c4,c5,c6,fM.more hk⟩
theorem fM.upto {R:Nat->Prop} {w:World} {n:Nat} {ao:Option Addr} {K:List Ex} (h:fM w R n ao K):∀ m,n<=m->fM w R m ao K
 | 0,hm=>by
  obtain rfl:n=0:=by omega
  exact h
 | m + 1,hm=>by
  by_cases e:n=m + 1
  · rw [<- e];exact h
  · exact fM.more (fM.upto h m (by omega))
abbrev Zx:=Ex × Option Addr × Nat
def iY (z:Zx):List Value:=[.int .i64 z.1.op,.string z.1.text,.int .u64 z.1.s0,.int .u64 z.1.s1,.int .u64 z.1.s2,.int .u64 z.1.s3,.slice z.2.1 z.1.kids.length z.2.2]
theorem YB:∀ (Z:List Zx) (k j:Nat) (z:Zx),Z[k]?=some z->j < 7->(Z.flatMap iY)[k * 7 + j]?=(iY z)[j]?
 | [],k,j,h,hk,hj=>by simp at hk
 | x :: L,0,j,h,hk,hj=>by simp at hk;subst hk;rw [List.flatMap_cons,List.getElem?_append_left (by show 0 * 7 + j < 7;omega),Nat.zero_mul,Nat.zero_add]
 | x :: L,k + 1,j,h,hk,hj=>by rw [List.flatMap_cons,List.getElem?_append_right (by show 7<=(k + 1) * 7 + j;omega),show (k + 1) * 7 + j - (iY x).length=k * 7 + j by show (k + 1) * 7 + j - 7=_;omega];exact YB L k j h (by simpa using hk) hj
def XS (G:Prop) (w:World) (D:Nat) (v:Value) (K:List Ex):Prop :=
 ∃ (R S:Nat->Prop) (Z:List Zx) (n:Nat),(∀ b,R b\/S b->D<=b/\b < w.heap.size)/\(∀ b,R b->¬ S b)/\Z.map (·.1)=K ∧
  Win S 32 7 w v Z.length (Z.flatMap iY)/\(G->∀ z ∈ Z,fM w R n z.2.1 z.1.kids)
theorem XS.keep {G:Prop} {w w':World} {D:Nat} {v:Value} {K:List Ex} {U:Nat->Prop} (h:XS G w D v K) (hb:But U w w') (hU:∀ b,U b->b < D):XS G w' D v K:=by
 obtain ⟨R,S,Z,n,h1,h2,h3,h4,h5⟩:=h;refine ⟨R,S,Z,n,fun b hb'=>⟨(h1 b hb').1,aL (h1 b hb').2 hb.size⟩,h2,h3,h4.keep hb fun g _ hs hu=>?_,fun hG z hz=>(h5 hG z hz).but hb fun g _ hr hu=>?_⟩
 · have:=hU g hu;have:=(h1 g (.inr hs)).1;omega
 · have:=hU g hu;have:=(h1 g (.inl hr)).1;omega
theorem XS.below {G:Prop} {w w':World} {D:Nat} {v:Value} {K:List Ex} (h:XS G w D v K) (hb:Below w.heap.size w w'):XS G w' D v K :=
 h.keep (U:=fun _=>False) (But.of_below hb) fun _ h=>h.elim
theorem XS.form {G:Prop} {w:World} {D:Nat} {v:Value} {K:List Ex} (h:XS G w D v K):∃ ao cap,v=.slice ao K.length cap:=by obtain ⟨R,S,Z,n,h1,h2,rfl,h4,h5⟩:=h;obtain ⟨ao,cap,hv,-⟩:=h4.form;exact ⟨ao,cap,by rw [hv,List.length_map]⟩
theorem XS.first {G:Prop} {w:World} {D B n:Nat} {x:Ex} {ko:Option Addr} {kc:Nat} (hB:Own w B 32 (iY (x,ko,kc))) (hD:D<=B) (hE:G->fM w (fun b=>D<=b/\b < B) n ko x.kids):XS G w D (.slice (some ⟨B,0,none⟩) 1 1) [x]:=by
 refine ⟨fun b=>D<=b/\b < B,fun b=>b=B,[(x,ko,kc)],n,?_,fun b h e=>by omega,rfl,⟨rfl,.inr ⟨B,0,1,_,rfl,rfl,hB,Nat.le_refl _,by unfold maxLen;omega,by simp [iY],?_⟩⟩,fun hG z hz=>?_⟩
 ·
  intro b hb;have:=hB.lt;rcases hb with hb | hb
  · omega
  · omega
 · simp [iY]
 · rw [List.mem_singleton] at hz;subst hz;exact hE hG
theorem XS.snoc {G:Prop} {w0 w1 w2 w3:World} {D n n' g:Nat} {v':Value} {R S:Nat->Prop} {Z:List Zx} {x:Ex} {ko:Option Addr} {kc:Nat} (hg:g < D) (hD:D<=w0.heap.size)
  (h1:∀ b,R b\/S b->D<=b/\b < w0.heap.size) (h2:∀ b,R b->¬ S b) (h5:G->∀ z ∈ Z,fM w0 R n z.2.1 z.1.kids)
  (hb1:But (fun j=>j=g) w0 w1) (hE:G->dD w1 w0.heap.size n' ko x.kids) (hb2:Below w1.heap.size w1 w2)
  (hw:Win (fun b=>S b\/w2.heap.size<=b) 32 7 w3 v' (Z.length + 1) (Z.flatMap iY ++ iY (x,ko,kc))) (hb3:But S w2 w3):XS G w3 D v' (Z.map (·.1) ++ [x]):=by
 have s1:=hb1.size;have s2:=hb2.size;have s3:=hb3.size
 have hkeep:∀ (Q:Nat->Prop) (m:Nat) (ao:Option Addr) (K:List Ex),(∀ b,Q b->b ≠ g/\¬ S b)->fM w0 Q m ao K->fM w3 Q m ao K:=fun Q m ao K hq h =>
  ((h.but hb1 fun j _ hj=>(hq j hj).1).but (But.of_below (S:=fun _=>False) hb2) fun _ _ _ h=>h).but hb3 fun j _ hj=>(hq j hj).2
 have hkeep2:∀ (Q:Nat->Prop) (m:Nat) (ao:Option Addr) (K:List Ex),(∀ b,Q b->¬ S b)->fM w1 Q m ao K->fM w3 Q m ao K:=fun Q m ao K hq h =>
  (h.but (But.of_below (S:=fun _=>False) hb2) fun _ _ _ h=>h).but hb3 fun j _ hj=>hq j hj
 refine ⟨fun b=>R b\/(w0.heap.size<=b/\b < w1.heap.size),fun b=>(S b\/w2.heap.size<=b)/\b < w3.heap.size,Z ++ [(x,ko,kc)],max n n',?_,?_,by simp,?_,?_⟩
 ·
  intro b hb;rcases hb with (hb | hb) | ⟨hb | hb,hlt⟩
  · have:=h1 b (.inl hb);omega
  · omega
  · have:=h1 b (.inr hb);omega
  · omega
 ·
  rintro b hb ⟨hs,hlt⟩;rcases hb with hb | hb
  ·
   rcases hs with hs | hs
   · exact h2 b hb hs
   · have:=h1 b (.inl hb);omega
  ·
   rcases hs with hs | hs
   · have:=h1 b (.inr hs);omega
   · omega
 ·
  rw [List.length_append,List.flatMap_append];have e:List.flatMap iY [(x,ko,kc)]=iY (x,ko,kc):=by simp
  rw [e];exact hw.mono fun b hb hs=>⟨hs,hb⟩
 ·
  intro hG z hz;rw [List.mem_append,List.mem_singleton] at hz;rcases hz with hz | rfl
  · exact ((hkeep R n _ _ (fun b hb=>⟨fun e=>by have:=h1 b (.inl hb);omega,h2 b hb⟩) (h5 hG z hz)).mono (fun b _ h=>.inl h)).upto _ (Nat.le_max_left _ _)
  · exact ((hkeep2 _ n' _ _ (fun b hb hs=>by have:=h1 b (.inr hs);omega) (fM.ofE (hE hG))).mono (fun b _ h=>.inr h)).upto _ (Nat.le_max_right _ _)
theorem XS.at_ {G:Prop} {w:World} {D m c k:Nat} {ao:Option Addr} {K:List Ex} {x:Ex} (h:XS G w D (.slice ao m c) K) (hx:K[k]?=some x):∃ b off ko kc,ao=some ⟨b,off,none⟩/\b < w.heap.size/\D<=b ∧
   w.cell? ⟨b,off + k * 7,none⟩=some (.int .i64 x.op)/\w.cell? ⟨b,off + k * 7 + 1,none⟩=some (.string x.text) ∧
   w.cell? ⟨b,off + k * 7 + 2,none⟩=some (.int .u64 x.s0)/\w.cell? ⟨b,off + k * 7 + 3,none⟩=some (.int .u64 x.s1) ∧
   w.cell? ⟨b,off + k * 7 + 4,none⟩=some (.int .u64 x.s2)/\w.cell? ⟨b,off + k * 7 + 5,none⟩=some (.int .u64 x.s3) ∧
   w.cell? ⟨b,off + k * 7 + 6,none⟩=some (.slice ko x.kids.length kc)/\(G->∃ n,dD w D n ko x.kids):=by
 obtain ⟨R,S,Z,n,h1,h2,rfl,h4,h5⟩:=h;have hk:k < Z.length:=by have:=(aS.1 hx).1;simpa using this
 obtain ⟨z,hz⟩:∃ z,Z[k]?=some z:=⟨_,aG hk⟩;obtain rfl:z.1=x:=by rw [List.getElem?_map,hz] at hx;simpa using hx
 obtain ⟨ao',cap,e1,_,_,hf⟩:=h4.form;injection e1 with e1 e2 e3;subst e1;have get:∀ j,j < 7->∃ g off,ao=some ⟨g,off,none⟩/\S g/\g < w.heap.size/\w.cell? ⟨g,off + (k * 7 + j),none⟩=(iY z)[j]?:=fun j hj=>by obtain ⟨g,off,e,hs,hg,hc,_⟩:=hf (k * 7 + j) (by omega);exact ⟨g,off,e,hs,hg,by rw [hc,YB Z k j z hz hj]⟩
 obtain ⟨g,off,e,hs,hg,c0⟩:=get 0 (by omega);subst e;have get2:∀ j,j < 7->w.cell? ⟨g,off + (k * 7 + j),none⟩=(iY z)[j]?:=fun j hj=>by obtain ⟨g',off',e,_,_,hc⟩:=get j hj;injection e with e;injection e with e4 e5;subst e4 e5;exact hc
 exact ⟨g,off,z.2.1,z.2.2,rfl,hg,(h1 g (.inr hs)).1,c0,get2 1 (by omega),get2 2 (by omega),get2 3 (by omega),get2 4 (by omega),get2 5 (by omega),get2 6 (by omega),fun hG=>⟨n,(h5 hG z (aM hz)).toE fun b hb=>(h1 b (.inl hb)).1⟩⟩
theorem XS.hasE {G:Prop} {w:World} {D m c:Nat} {ao:Option Addr} {K:List Ex} (h:XS G w D (.slice ao m c) K) (hG:G):∃ n,dD w D n ao K:=by
 have hh:=h;obtain ⟨R,S,Z,n,h1,h2,rfl,h4,h5⟩:=hh;refine ⟨n + 1,fun k x hx=>?_⟩;have hk:k < Z.length:=by have:=(aS.1 hx).1;simpa using this
 obtain ⟨z,hz⟩:∃ z,Z[k]?=some z:=⟨_,aG hk⟩;obtain rfl:z.1=x:=by rw [List.getElem?_map,hz] at hx;simpa using hx
 obtain ⟨ao',cap,e1,_,_,hf⟩:=h4.form;injection e1 with e1 e2 e3;subst e1;have get:∀ j,j < 7->∃ g off,ao=some ⟨g,off,none⟩/\S g/\g < w.heap.size/\w.cell? ⟨g,off + (k * 7 + j),none⟩=(iY z)[j]?:=fun j hj=>by obtain ⟨g,off,e,hs,hg,hc,_⟩:=hf (k * 7 + j) (by omega);exact ⟨g,off,e,hs,hg,by rw [hc,YB Z k j z hz hj]⟩
 obtain ⟨g,off,e,hs,hg,c0⟩:=get 0 (by omega);subst e;have get2:∀ j,j < 7->w.cell? ⟨g,off + (k * 7 + j),none⟩=(iY z)[j]?:=fun j hj=>by obtain ⟨g',off',e,_,_,hc⟩:=get j hj;injection e with e;injection e with e4 e5;subst e4 e5;exact hc
 exact ⟨g,off,z.2.1,z.2.2,rfl,hg,(h1 g (.inr hs)).1,c0,get2 1 (by omega),get2 2 (by omega),get2 3 (by omega),get2 4 (by omega),get2 5 (by omega),get2 6 (by omega),(h5 hG z (aM hz)).toE fun b hb=>(h1 b (.inl hb)).1⟩
theorem Mi:(Tryz.prog.info? 32).map (fun i=>(i.zero,i.size,i.bytes))=some (some (.agg #[.int .i64 0,.string ⟨#[]⟩,.int .u64 0,.int .u64 0,.int .u64 0,.int .u64 0,.slice none 0 0]),7,80):=by kernel_rfl
def sliceLen:Value->Nat | .slice _ n _=>n | _=>0
def lsL (c:Nat->Bool) (nx:Nat->Rs):Nat->List Ex->Nat->Except (Int × Int) (List Ex × Nat)
 | 0,A,k=>.ok (A,k)
 | f + 1,A,k=>if c k=true then (match nx k with | .ok (e,m)=>lsL c nx f (A ++ [e]) m | .error e=>.error e) else .ok (A,k)
theorem A6T (L:List Tok) (pre:Nat->Rs):∀ f A k,yY L pre f A k=lsL (jC L) pre f A k
 | 0,A,k=>rfl
 | f + 1,A,k=>by
  unfold yY lsL
  cases pre k with
  | error e=>rfl
  | ok p =>
   obtain ⟨e,m⟩:=p;simp only [A6T L pre f]
theorem A9Y (L:List Tok) (sq:Nat->Rs):∀ f A k,chL L sq f A k=lsL (fun k=>isS L k [47]) (fun k=>sq (k + 1)) f A k
 | 0,A,k=>rfl
 | f + 1,A,k=>by
  unfold chL lsL
  cases sq (k + 1) with
  | error e=>rfl
  | ok p =>
   obtain ⟨e,m⟩:=p;simp only [A9Y L sq f]
def Ox (op:Int):Except (Int × Int) (List Ex × Nat)->Rs
 | .error e=>.error e
 | .ok (K,m)=>.ok (Fa op K,m)
def lsO (c:Nat->Bool) (n:Nat) (nx:Nat->Rs):Rs->Except (Int × Int) (List Ex × Nat)
 | .error e=>.error e
 | .ok (e,m)=>lsL c nx n [e] m
theorem Ie (L:List Tok) (pre:Nat->Rs) (k:Nat):lC L pre k=Ox 4 (lsO (jC L) (L.length + 1) pre (pre k)):=by
 unfold lC
 cases pre k with
 | error e=>rfl
 | ok p =>
  obtain ⟨e,m⟩:=p;show (match yY L pre (L.length + 1) [e] m with | .error e=>Except.error e | .ok (K,m')=>.ok (Fa 4 K,m'))=_;rw [A6T];show _=Ox 4 (lsL _ _ _ _ _)
  cases lsL (jC L) pre (L.length + 1) [e] m <;> rfl
theorem Px (L:List Tok) (sq:Nat->Rs) (k:Nat):chO L sq k=Ox 5 (lsO (fun k=>isS L k [47]) (L.length + 1) (fun k=>sq (k + 1)) (sq k)):=by
 unfold chO
 cases sq k with
 | error e=>rfl
 | ok p =>
  obtain ⟨e,m⟩:=p;show (match chL L sq (L.length + 1) [e] m with | .error e=>Except.error e | .ok (K,m')=>.ok (Fa 5 K,m'))=_;rw [A9Y];show _=Ox 5 (lsL _ _ _ _ _)
  cases lsL (fun k=>isS L k [47]) (fun k=>sq (k + 1)) (L.length + 1) [e] m <;> rfl
theorem VN {c:Nat->Bool} {nx:Nat->Rs} {f k:Nat} {A:List Ex} (hf:0 < f):lsL c nx f A k=if c k=true then (match nx k with | .ok (e,m)=>lsL c nx (f - 1) (A ++ [e]) m | .error e=>.error e) else .ok (A,k):=by obtain ⟨f,rfl⟩:∃ q,f=q + 1:=⟨f - 1,by omega⟩;rfl
def LsQ (L:List Tok) (c:Nat->Bool) (nx:Nat->Rs) (RS:Except (Int × Int) (List Ex × Nat)) (K:List Ex) (k:Nat):Option (Int × Int)->Prop
 | none=>K.length<=k/\k<=L.length/\∃ f,lsL c nx f K k=RS/\L.length < f + k
 | some e=>e.1 ≠ 0/\RS=.error e
def Pj (RS:Except (Int × Int) (List Ex × Nat)) (K:List Ex) (k:Nat):Option (Int × Int)->Prop
 | none=>RS=.ok (K,k)
 | some e=>e.1 ≠ 0/\RS=.error e
theorem jU.ends {w w9:World} {g lc D k:Nat} {lo:Option Addr} {L:List Tok} {RS:Except (Int × Int) (List Ex × Nat)} {K:List Ex} {F:Option (Int × Int)} {op:Int} {ko:Option Addr} (hR:Rd w9 g lo lc L k F) (hF:Pj RS K k F)
  (hE:F=none->∃ n,dD w9 D n ko (Fa op K).kids):jU w g lo lc L (Ox op RS) D (Fa op K) ko w9:=by
 cases F with
 | none =>
  have hF:RS=.ok (K,k):=hF;subst hF;exact ⟨hR,rfl,hE rfl⟩
 | some e =>
  have hF2:RS=.error e:=hF.2;subst hF2;exact ⟨hF.1,k,hR⟩
theorem uM {op:Int} {K:List Ex} (h:K.length ≠ 1):Fa op K=.mk op ⟨#[]⟩ 0 0 0 0 K:=by
 match K,h with
 | [],_=>rfl
 | [x],h=>exact absurd rfl h
 | x :: y :: r,_=>rfl
theorem Rh {L:List Tok} {k:Nat} (h:jC L k=true):k < L.length:=by
 rcases Nat.lt_or_ge k L.length with h1 | h1
 · exact h1
 · unfold jC isS at h;rw [Ol h1] at h;simp [tk0] at h
theorem B8i (sub:Nat->Rs) (dp:Int) (g:Nat) (lo:Option Addr) (lc:Nat) (L:List Tok) (k:Nat) (hn:(L.length:Int)<=90000) (hk:k<=L.length)
  (HP:∀ (m:Nat),m<=L.length->∀ W,Rd W g lo lc L m none->Calls Tryz.prog 155 #[.pointer (some ⟨g,0,none⟩),.int .i64 dp] W fun e w'=>Out W g lo lc L (sub m) e w')
  (HPL:∀ j,Bd L j (sub j)) (w:World) (h:Rd w g lo lc L k none) :
  Calls Tryz.prog 133 #[.pointer (some ⟨g,0,none⟩),.int .i64 dp] w fun e w'=>Out w g lo lc L (lC L sub k) e w':=by
 have HH:=aH h;have HPP:=aH HP;have HBD:=aH HPL;have HSTA:=aH (fun (m:Nat) (hm:(m:Int)<=1000000) (W:World) (hW:Rd W g lo lc L m none)=>A8H g lo lc L m none (by omega) hm W hW);have HR:=aH (Own.fresh w 32 [.int .i64 0,.string ⟨#[]⟩,.int .u64 0,.int .u64 0,.int .u64 0,.int .u64 0,.slice none 0 0]);have H1:=aH (h.below (bA (.cells #[.int .i64 0,.string ⟨#[]⟩,.int .u64 0,.int .u64 0,.int .u64 0,.int .u64 0,.slice none 0 0] 32)));have HU:=aH (But.of_below (S:=fun j=>j=g) ((Below.refl w.heap.size w).alloc (Nat.le_refl _) (.cells #[.int .i64 0,.string ⟨#[]⟩,.int .u64 0,.int .u64 0,.int .u64 0,.int .u64 0,.slice none 0 0] 32)));have HGN:=aH (show g < w.heap.size from h.1.lt);obtain ⟨c,hc⟩:∃ c:Nat->Bool,c=jC L:=⟨_,rfl⟩;have HC:=aH hc;obtain ⟨nx,hnx⟩:∃ nx:Nat->Rs,nx=sub:=⟨_,rfl⟩;have HNX:=aH hnx;obtain ⟨RS,hRS⟩:∃ r,lsO c (L.length + 1) nx (sub k)=r:=⟨_,rfl⟩;have HSP:=aH (show lC L sub k=Ox 4 RS from by rw [Ie,<- hRS,hc,hnx]);have HRS:=aH hRS;have HCL:=aH (show ∀ j,c j=true->j < L.length from fun j h=>by rw [hc] at h;exact Rh h);generalize lC L sub k=RES at *;clear h HP HPL hRS hc hnx;go_enter Tryz.func133,Tryz.ntmps133;go_upto_region 1 with fail;have HS1:=aH (show w.heap.size + 1<=(w.alloc (.cells #[.int .i64 0,.string ⟨#[]⟩,.int .u64 0,.int .u64 0,.int .u64 0,.int .u64 0,.slice none 0 0] 32)).heap.size by simp);generalize World.alloc w _=w1 at *;obtain ⟨N,hN⟩:∃ N,w.heap.size=N:=⟨_,rfl⟩;rw [hN] at HR HGN HS1;rw [hN];have HNN:=aH hN;clear hN;go_wp2_with fail;refine (HPP.o k hk _ H1.o).mono ?_;rintro e w2 ⟨hbu,X2,ko,kc,rfl,hq⟩;unfold exv;have HBR:=aH (HBD.o k);obtain ⟨r,hr⟩:∃ r,sub k=r:=⟨_,rfl⟩;rw [hr] at hq HBR HRS;clear hr;have HQ3:=aH (show jU w g lo lc L r w1.heap.size X2 ko (w2.alloc (.cells #[.int .i64 X2.op,.string X2.text,.int .u64 X2.s0,.int .u64 X2.s1,.int .u64 X2.s2,.int .u64 X2.s3,.slice ko X2.kids.length kc] 32)) from jU.below hq (bA _));have HQ2:=aH hq;have HR3:=aH ((HR.o.but hbu (by have:=HGN.o;omega)).on_alloc (.cells #[.int .i64 X2.op,.string X2.text,.int .u64 X2.s0,.int .u64 X2.s1,.int .u64 X2.s2,.int .u64 X2.s3,.slice ko X2.kids.length kc] 32));have HU3:=aH ((HU.o.trans hbu (fun _ _ h=>h)).alloc (.cells #[.int .i64 X2.op,.string X2.text,.int .u64 X2.s0,.int .u64 X2.s1,.int .u64 X2.s2,.int .u64 X2.s3,.slice ko X2.kids.length kc] 32));have HZ3:=aH (show w1.heap.size<=w2.heap.size from hbu.size);have HX3:=aH (Own.fresh w2 32 (iY (X2,ko,kc)));go_wp2_with fail;have H0:∃ (kk:Nat) (F:Option (Int × Int)),Rd (w2.alloc (.cells #[.int .i64 X2.op,.string X2.text,.int .u64 X2.s0,.int .u64 X2.s1,.int .u64 X2.s2,.int .u64 X2.s3,.slice ko X2.kids.length kc] 32)) g lo lc L kk F/\XS (F=none) (w2.alloc (.cells #[.int .i64 X2.op,.string X2.text,.int .u64 X2.s0,.int .u64 X2.s1,.int .u64 X2.s2,.int .u64 X2.s3,.slice ko X2.kids.length kc] 32)) (N + 1) (.slice (some ⟨w2.heap.size,0,none⟩) [X2].length 1) [X2]/\LsQ L c nx RS [X2] kk F:=by
  cases r with
  | error f =>
   obtain ⟨h1,kk,h2⟩:=HQ3.o;exact ⟨kk,some f,h2,XS.first (n:=0) HX3.o (by have:=HS1.o;have:=HZ3.o;omega) (fun h=>by cases h),h1,HRS.o.symm⟩
  | ok q =>
   obtain ⟨x,m⟩:=q;obtain ⟨h1,rfl,n,h2⟩:=HQ3.o;obtain ⟨b1,b2⟩:=HBR.o x m rfl;obtain ⟨_,_,n',h3⟩:=HQ2.o;exact ⟨m,none,h1,XS.first (n:=n') HX3.o (by have:=HS1.o;have:=HZ3.o;omega) (fun _=>((fM.ofE h3).but (But.of_below (S:=fun _=>False) (bA _)) (fun _ _ _ h=>h)).mono (fun b _ h=>by have:=HS1.o;omega)),by show 1<=m;omega,b2,_,HRS.o,by omega⟩
 obtain ⟨kk0,F0,r1,r2,r3⟩:=H0;have H10:=aH r1;have H20:=aH r2;have H30:=aH r3;have HZ4:=aH (show N + 1<=(w2.alloc (.cells #[.int .i64 X2.op,.string X2.text,.int .u64 X2.s0,.int .u64 X2.s1,.int .u64 X2.s2,.int .u64 X2.s3,.slice ko X2.kids.length kc] 32)).heap.size by have:=HS1.o;have:=HZ3.o;simp;omega);clear r1 r2 r3 hbu hq HQ3 HQ2 HX3 HBR HRS H1 HR HU HS1 HZ3;generalize w2.alloc _=w3 at *;generalize w2.heap.size=B0 at *
 go_loopw [5] (fun v5 wr=>∃ (K:List Ex) (ao:Option Addr) (cap kk:Nat) (F:Option (Int × Int)),v5=.slice ao K.length cap/\aQ (Rd wr g lo lc L kk F)/\aQ (XS (F=none) wr (N + 1) (.slice ao K.length cap) K)/\aQ (LsQ L c nx RS K kk F) ∧
   aQ (Own wr N 32 [.int .i64 0,.string ⟨#[]⟩,.int .u64 0,.int .u64 0,.int .u64 0,.int .u64 0,.slice none 0 0])/\aQ (But (fun j=>j=g) w wr)/\aQ (N + 1<=wr.heap.size)) (fun v5 _=>L.length + 2 - sliceLen v5)
 case atStart=>exact ⟨[X2],_,_,kk0,F0,rfl,H10,H20,H30,HR3,HU3,HZ4⟩
 case round =>
  obtain ⟨K,ao,cap,kk,F,rfl,HD,HXS,HLQ,HR,HU,HZ⟩:=hrel;clear H10 H20 H30 HR3 HU3 HZ4;obtain ⟨c0,c1,c2,c3,c4,c5,cg⟩:=HD.o.1.six_r
  cases F with
  | some f =>
   have c2':wr.cell? ⟨g,2,none⟩=some (.int .i64 f.1):=c2;have ef:(f.1 == 0)=false:=aN.2 HLQ.o.1;have HFE:=aH (show Pj RS K kk (some f) from HLQ.o);clear c0 c1 c2 c3 c4 c5;obtain ⟨wt,hwt⟩:∃ wt,wr=wt:=⟨_,rfl⟩;subst hwt;by_cases hk1:K.length=1
   ·
    obtain ⟨X2,rfl⟩:∃ x,K=[x]:=List.length_eq_one_iff.1 hk1;obtain ⟨bb,off,ko,kc,rfl,hbl,hbD,a0,a1,a2,a3,a4,a5,a6,hkid⟩:=HXS.o.at_ (k:=0) (x:=X2) rfl;have HKID:=aH hkid;have HBD:=aH hbD;rw [Nat.zero_mul,Nat.add_zero] at a0 a1 a2 a3 a4 a5 a6;obtain ⟨z0,z1,z2,z3,z4,z5,z6,y0,y1,y2,y3,y4,y5,y6⟩:=HR.o.seven2;have zl:=HR.o.lt;clear hkid hbD hk1;go_wp2;rw [aU];have HF:=(fX (p7 HR.o) X2 ko kc);obtain ⟨hU,hR⟩:=fX (Rd.fin HH.o (Nat.le_of_eq HNN.o) HU.o HD.o) X2 ko kc;have HBW:=aH (fX (But.set7 wr N) X2 ko kc);clear z0 z1 z2 z3 z4 z5 z6 y0 y1 y2 y3 y4 y5 y6;generalize bI _ N _ _ _ _ _ _ _=w9 at *;obtain ⟨z0,z1,z2,z3,z4,z5,z6⟩:=HF.seven;refine bodyPost_ret (by simp [results,Tryz.results133,go_sem,z0,z1,z2,z3,z4,z5,z6];rfl) rfl ?_;rw [HSP.o]
    exact ⟨hU,X2,ko,kc,rfl,jU.ends (op:=4) (K:=[X2]) hR HFE.o (fun e=>by
     obtain ⟨m,hm⟩:=HKID.o (by first | trivial | exact e)
     exact ⟨m,dD.low (by have:=HNN.o;omega) (dD.but HBW.o (fun j hj=>by omega) hm)⟩)⟩
   ·
    have hk1':decide ((K.length:Int)=1)=false:=aF (by omega);have hk1i:¬ (K.length:Int)=1:=(by omega);have HK1:=aH (uM (op:=4) hk1);obtain ⟨z0,z1,z2,z3,z4,z5,z6,y0,y1,y2,y3,y4,y5,y6⟩:=HR.o.seven2;have zl:=HR.o.lt;clear hk1;go_wp2;rw [aU];have HF:=(p7 HR.o (.int .i64 4) (.string ⟨#[]⟩) (.int .u64 0) (.int .u64 0) (.int .u64 0) (.int .u64 0) (.slice ao K.length cap));obtain ⟨hU,hR⟩:=Rd.fin HH.o (Nat.le_of_eq HNN.o) HU.o HD.o (.int .i64 4) (.string ⟨#[]⟩) (.int .u64 0) (.int .u64 0) (.int .u64 0) (.int .u64 0) (.slice ao K.length cap);have HBW:=aH (But.set7 wr N (.int .i64 4) (.string ⟨#[]⟩) (.int .u64 0) (.int .u64 0) (.int .u64 0) (.int .u64 0) (.slice ao K.length cap));clear z0 z1 z2 z3 z4 z5 z6 y0 y1 y2 y3 y4 y5 y6;generalize bI _ N _ _ _ _ _ _ _=w9 at *;obtain ⟨z0,z1,z2,z3,z4,z5,z6⟩:=HF.seven;refine bodyPost_ret (by simp [results,Tryz.results133,go_sem,z0,z1,z2,z3,z4,z5,z6];rfl) rfl ?_;rw [HSP.o]
    have hfin:=jU.ends (w:=w) (D:=w.heap.size) (op:=4) (ko:=ao) hR HFE.o (fun e=>by
     obtain ⟨m,hm⟩:=HXS.o.hasE (by first | trivial | exact e);rw [HK1.o]
     exact ⟨m,dD.low (by have:=HNN.o;omega) (dD.but HBW.o (fun j hj=>by omega) hm)⟩)
    rw [HK1.o] at hfin;exact ⟨hU,.mk 4 ⟨#[]⟩ 0 0 0 0 K,ao,cap,rfl,hfin⟩
  | none =>
   obtain ⟨f,hf,hff⟩:=HLQ.o.2.2;have c2':wr.cell? ⟨g,2,none⟩=some (.int .i64 0):=c2;have hkl:K.length<=kk:=HLQ.o.1;have hkL:kk<=L.length:=HLQ.o.2.1;have HGO:=aH (show RS=_ from by rw [<- hf,VN (by omega)]);have HFF:=aH hff;clear c0 c1 c2 c3 c4 c5 hf hff HLQ;obtain ⟨z,hz⟩:∃ z,c kk=z:=⟨_,rfl⟩;have HCT:=aH (show ∀ W,Rd W g lo lc L kk none->Calls Tryz.prog 156 #[.pointer (some ⟨g,0,none⟩)] W fun e w'=>e=.returned (.bool z)/\Below W.heap.size W w' from fun W hW=>by rw [<- hz,HC.o];exact HSTA.o kk (by omega) W hW);have HZL:=aH (show z=true->kk < L.length from fun h=>HCL.o kk (hz.trans h));rw [hz] at HGO;clear hz;go_wp2_with fail;refine (HCT.o _ HD.o).mono ?_;rintro e wt ⟨rfl,hbl⟩;have HD2:=aH (HD.o.below hbl);have HXS2:=aH (HXS.o.below hbl);have HR2:=aH (HR.o.under hbl HR.o.lt);have HU2:=aH (HU.o.then_below hbl);have HZ2:=aH (show N + 1<=wt.heap.size from Nat.le_trans HZ.o hbl.size);clear hbl HCT HD HXS HR HU HZ c2' cg
   cases z
   case false =>
    have HFE:=aH (show Pj RS K kk none from HGO.o.trans (if_neg (by decide)));clear HGO HZL;have HD:=HD2;have HXS:=HXS2;have HR:=HR2;have HU:=HU2;have HZ:=HZ2;clear HD2 HXS2 HR2 HU2 HZ2;by_cases hk1:K.length=1
    ·
     obtain ⟨X2,rfl⟩:∃ x,K=[x]:=List.length_eq_one_iff.1 hk1;obtain ⟨bb,off,ko,kc,rfl,hbl,hbD,a0,a1,a2,a3,a4,a5,a6,hkid⟩:=HXS.o.at_ (k:=0) (x:=X2) rfl;have HKID:=aH hkid;have HBD:=aH hbD;rw [Nat.zero_mul,Nat.add_zero] at a0 a1 a2 a3 a4 a5 a6;obtain ⟨z0,z1,z2,z3,z4,z5,z6,y0,y1,y2,y3,y4,y5,y6⟩:=HR.o.seven2;have zl:=HR.o.lt;clear hkid hbD hk1;go_wp2;rw [aU];have HF:=(fX (p7 HR.o) X2 ko kc);obtain ⟨hU,hR⟩:=fX (Rd.fin HH.o (Nat.le_of_eq HNN.o) HU.o HD.o) X2 ko kc;have HBW:=aH (fX (But.set7 wt N) X2 ko kc);clear z0 z1 z2 z3 z4 z5 z6 y0 y1 y2 y3 y4 y5 y6;generalize bI _ N _ _ _ _ _ _ _=w9 at *;obtain ⟨z0,z1,z2,z3,z4,z5,z6⟩:=HF.seven;refine bodyPost_ret (by simp [results,Tryz.results133,go_sem,z0,z1,z2,z3,z4,z5,z6];rfl) rfl ?_;rw [HSP.o]
     exact ⟨hU,X2,ko,kc,rfl,jU.ends (op:=4) (K:=[X2]) hR HFE.o (fun e=>by
      obtain ⟨m,hm⟩:=HKID.o (by first | trivial | exact e)
      exact ⟨m,dD.low (by have:=HNN.o;omega) (dD.but HBW.o (fun j hj=>by omega) hm)⟩)⟩
    ·
     have hk1':decide ((K.length:Int)=1)=false:=aF (by omega);have hk1i:¬ (K.length:Int)=1:=(by omega);have HK1:=aH (uM (op:=4) hk1);obtain ⟨z0,z1,z2,z3,z4,z5,z6,y0,y1,y2,y3,y4,y5,y6⟩:=HR.o.seven2;have zl:=HR.o.lt;clear hk1;go_wp2;rw [aU];have HF:=(p7 HR.o (.int .i64 4) (.string ⟨#[]⟩) (.int .u64 0) (.int .u64 0) (.int .u64 0) (.int .u64 0) (.slice ao K.length cap));obtain ⟨hU,hR⟩:=Rd.fin HH.o (Nat.le_of_eq HNN.o) HU.o HD.o (.int .i64 4) (.string ⟨#[]⟩) (.int .u64 0) (.int .u64 0) (.int .u64 0) (.int .u64 0) (.slice ao K.length cap);have HBW:=aH (But.set7 wt N (.int .i64 4) (.string ⟨#[]⟩) (.int .u64 0) (.int .u64 0) (.int .u64 0) (.int .u64 0) (.slice ao K.length cap));clear z0 z1 z2 z3 z4 z5 z6 y0 y1 y2 y3 y4 y5 y6;generalize bI _ N _ _ _ _ _ _ _=w9 at *;obtain ⟨z0,z1,z2,z3,z4,z5,z6⟩:=HF.seven;refine bodyPost_ret (by simp [results,Tryz.results133,go_sem,z0,z1,z2,z3,z4,z5,z6];rfl) rfl ?_;rw [HSP.o]
     have hfin:=jU.ends (w:=w) (D:=w.heap.size) (op:=4) (ko:=ao) hR HFE.o (fun e=>by
      obtain ⟨m,hm⟩:=HXS.o.hasE (by first | trivial | exact e);rw [HK1.o]
      exact ⟨m,dD.low (by have:=HNN.o;omega) (dD.but HBW.o (fun j hj=>by omega) hm)⟩)
     rw [HK1.o] at hfin;exact ⟨hU,.mk 4 ⟨#[]⟩ 0 0 0 0 K,ao,cap,rfl,hfin⟩
   case true =>
    have hkl2:=HZL.o rfl;have HGT:=aH (HGO.o.trans (if_pos rfl));have hk2:kk<=L.length:=hkL;obtain ⟨k2,hk2e⟩:∃ k2,k2=kk:=⟨_,rfl⟩;have HD3:=aH (show Rd wt g lo lc L k2 none from by rw [hk2e];exact HD2.o);have HNK:=aH (show nx kk=sub k2 from by rw [HNX.o,hk2e]);have hk2l:k2<=L.length:=(by omega);have HKK:=aH (show kk<=k2 by omega);clear hk2e HD2 HGO HZL;rw [HNK.o] at HGT;go_wp2_with fail;refine (HPP.o k2 hk2l _ HD3.o).mono ?_;rintro e w4 ⟨hbu,X2,ko,kc,rfl,hq⟩;unfold exv;have HBR:=aH (HBD.o k2);obtain ⟨r,hr⟩:∃ r,sub k2=r:=⟨_,rfl⟩;rw [hr] at hq HBR HGT;clear hr HNK;have HBU:=aH hbu;have HQ:=aH hq;have HR4:=aH ((HR2.o.but hbu (by have:=HGN.o;omega)).on_alloc (.cells #[.int .i64 X2.op,.string X2.text,.int .u64 X2.s0,.int .u64 X2.s1,.int .u64 X2.s2,.int .u64 X2.s3,.slice ko X2.kids.length kc] 32));have HU4:=aH ((HU2.o.trans hbu (fun _ _ h=>h)).alloc (.cells #[.int .i64 X2.op,.string X2.text,.int .u64 X2.s0,.int .u64 X2.s1,.int .u64 X2.s2,.int .u64 X2.s3,.slice ko X2.kids.length kc] 32));have HQ4:=aH (show jU w g lo lc L r wt.heap.size X2 ko (w4.alloc (.cells #[.int .i64 X2.op,.string X2.text,.int .u64 X2.s0,.int .u64 X2.s1,.int .u64 X2.s2,.int .u64 X2.s3,.slice ko X2.kids.length kc] 32)) from jU.below hq (bA _));have HB4:=aH (show Below w4.heap.size w4 (w4.alloc (.cells #[.int .i64 X2.op,.string X2.text,.int .u64 X2.s0,.int .u64 X2.s1,.int .u64 X2.s2,.int .u64 X2.s3,.slice ko X2.kids.length kc] 32)) from bA _);have HS4:=aH (show wt.heap.size<=w4.heap.size/\w4.heap.size < (w4.alloc (.cells #[.int .i64 X2.op,.string X2.text,.int .u64 X2.s0,.int .u64 X2.s1,.int .u64 X2.s2,.int .u64 X2.s3,.slice ko X2.kids.length kc] 32)).heap.size from ⟨hbu.size,by simp⟩);clear hbu hq HR2 HU2 HD3;have HXT:=HXS2;obtain ⟨R,S,Z,n,s1,s2,s3,s4,s5⟩:=HXS2.o;have HLZ:=aH (show Z.length=K.length from by rw [<- s3,List.length_map]);have HS1:=aH s1;have HS2:=aH s2;have HS3:=aH s3;have HS5:=aH s5;have HWN:=aH ((s4.keep HBU.o (fun g' hg' hs e=>by have:=s1 g' (.inr hs);have:=HGN.o;omega)).below HB4.o);clear s1 s2 s3 s4 s5 HXS2;obtain ⟨i0,hi,hz0,hz1,hz2⟩:=cZ Mi;have HNEW:=aH (fun W=>bD W 32 (iY (X2,ko,kc)));have HCEL:=aH (show ∀ u ∈ iY (X2,ko,kc),u.oneCell'=true by intro u hu;simp [iY] at hu;rcases hu with rfl | rfl | rfl | rfl | rfl | rfl | rfl <;> rfl);obtain ⟨nK,hnK⟩:∃ n,K.length=n:=⟨_,rfl⟩;rw [hnK] at HWN HLZ hkl;rw [HLZ.o] at HWN;rw [hnK];have HKN:=aH hnK;clear hnK
    go_wp2_with (first
     | (at_builtin;refine aX _ rfl _ _ 30 rfl S 32 i0 _ 7 80 Tryz.underlying30 hi hz0 hz1 hz2 rfl (by decide) _ nK (Z.flatMap iY) rfl HWN.o ⟨w4.heap.size,0,none⟩ 1 1 (iY (X2,ko,kc)) rfl rfl (HNEW.o w4) HCEL.o (by unfold maxLen;omega) (by omega) ?_))
    intro v' w7 hw7 hb7;have HW7:=aH hw7;have HB7:=aH hb7;have HSG:=aH (show ∀ b,S b->N < b from fun b hb=>by have:=HS1.o b (.inr hb);omega);have HR7:=aH (HR4.o.but hb7 (fun h=>by have:=HSG.o _ h;omega));have HU7:=aH (HU4.o.trans hb7 (fun j hj hs=>by have:=HSG.o _ hs;have:=HNN.o;omega));have HZ7:=aH (show N + 1<=w7.heap.size from by have:=HZ2.o;have:=HS4.o;have:=hb7.size;omega);have HSZ:=aH (show g < N + 1/\N + 1<=wt.heap.size from ⟨by have:=HGN.o;omega,HZ2.o⟩);have H0:∃ (kk:Nat) (F:Option (Int × Int)),Rd w7 g lo lc L kk F/\XS (F=none) w7 (N + 1) v' (K ++ [X2])/\LsQ L c nx RS (K ++ [X2]) kk F:=by
     rw [<- HS3.o];have hw7':Win (fun b=>S b\/(w4.alloc (.cells #[.int .i64 X2.op,.string X2.text,.int .u64 X2.s0,.int .u64 X2.s1,.int .u64 X2.s2,.int .u64 X2.s3,.slice ko X2.kids.length kc] 32)).heap.size<=b) 32 7 w7 v' (Z.length + 1) (Z.flatMap iY ++ iY (X2,ko,kc)):=(by rw [HLZ.o];exact HW7.o.mono (fun b _ h=>by simpa using h));have hgS:¬ S g:=fun h=>(by have:=HSG.o _ h;have:=HGN.o;omega);have hRd:∀ m F,Rd (w4.alloc (.cells #[.int .i64 X2.op,.string X2.text,.int .u64 X2.s0,.int .u64 X2.s1,.int .u64 X2.s2,.int .u64 X2.s3,.slice ko X2.kids.length kc] 32)) g lo lc L m F->Rd w7 g lo lc L m F:=fun m F h=>⟨h.1.but HB7.o hgS,HH.o.2.1.but HH.o.2.2 HU7.o,HH.o.2.2⟩
     cases r with
     | error f =>
      obtain ⟨h1,k3,h2⟩:=HQ4.o;exact ⟨k3,some f,hRd _ _ h2,XS.snoc (G:=some f=none) (n:=0) (n':=0) HSZ.o.1 HSZ.o.2 HS1.o HS2.o (fun h=>by cases h) HBU.o (fun h=>by cases h) HB4.o hw7' HB7.o,h1,HGT.o⟩
     | ok q =>
      obtain ⟨x,m⟩:=q;obtain ⟨h1,rfl,n1,h2⟩:=HQ4.o;obtain ⟨b1,b2⟩:=HBR.o x m rfl;obtain ⟨_,_,n',h3⟩:=HQ.o;exact ⟨m,none,hRd _ _ h1,XS.snoc (G:=(none:Option (Int × Int))=none) (n':=n') HSZ.o.1 HSZ.o.2 HS1.o HS2.o (fun h=>HS5.o (by first | trivial | exact rfl)) HBU.o (fun _=>h3) HB4.o hw7' HB7.o,by rw [HS3.o,List.length_append,HKN.o];show nK + 1<=m;have:=HKK.o;omega,b2,f - 1,by rw [HS3.o];exact HGT.o.symm,by have:=HKK.o;have:=HFF.o;omega⟩
    obtain ⟨k9,F9,r1,r2,r3⟩:=H0;obtain ⟨ao',cap',hv⟩:=r2.form;have hv2:v'=.slice ao' (nK + 1) cap':=(by rw [hv,List.length_append,HKN.o];rfl);have hln:(K ++ [X2]).length=nK + 1:=(by rw [List.length_append,HKN.o];rfl);subst hv2;have H19:=aH r1;have H29:=aH (show XS (F9=none) w7 (N + 1) (.slice ao' (K ++ [X2]).length cap') (K ++ [X2]) from by rw [hln];exact r2);have H39:=aH r3;have HLN:=aH hln;clear r1 r2 r3 hw7 hb7 hv hln;go_wp2
    go_roundw
    case rel=>exact ⟨K ++ [X2],ao',cap',k9,F9,by rw [HLN.o],H19,H29,H39,HR7,HU7,HZ7⟩
    case measure=>have:=HKN.o;simp [sliceLen];omega
theorem B6H (sub:Nat->Rs) (dp:Int) (g:Nat) (lo:Option Addr) (lc:Nat) (L:List Tok) (k:Nat) (hn:(L.length:Int)<=90000) (hk:k<=L.length)
  (HP:∀ (m:Nat),m<=L.length->∀ W,Rd W g lo lc L m none->Calls Tryz.prog 133 #[.pointer (some ⟨g,0,none⟩),.int .i64 dp] W fun e w'=>Out W g lo lc L (sub m) e w')
  (HPL:∀ j,Bd L j (sub j)) (w:World) (h:Rd w g lo lc L k none) :
  Calls Tryz.prog 112 #[.pointer (some ⟨g,0,none⟩),.int .i64 dp] w fun e w'=>Out w g lo lc L (chO L sub k) e w':=by
 have HH:=aH h;have HPP:=aH HP;have HBD:=aH HPL;have HTK:=aH (fun (m:Nat) (hm:(m:Int)<=1000000) (s:ByteArray) (W:World) (hW:Rd W g lo lc L m none)=>Vl s g lo lc L m none (by omega) hm W hW);have HR:=aH (Own.fresh w 32 [.int .i64 0,.string ⟨#[]⟩,.int .u64 0,.int .u64 0,.int .u64 0,.int .u64 0,.slice none 0 0]);have H1:=aH (h.below (bA (.cells #[.int .i64 0,.string ⟨#[]⟩,.int .u64 0,.int .u64 0,.int .u64 0,.int .u64 0,.slice none 0 0] 32)));have HU:=aH (But.of_below (S:=fun j=>j=g) ((Below.refl w.heap.size w).alloc (Nat.le_refl _) (.cells #[.int .i64 0,.string ⟨#[]⟩,.int .u64 0,.int .u64 0,.int .u64 0,.int .u64 0,.slice none 0 0] 32)));have HGN:=aH (show g < w.heap.size from h.1.lt);obtain ⟨c,hc⟩:∃ c:Nat->Bool,c=(fun k=>isS L k [47]):=⟨_,rfl⟩;have HC:=aH hc;obtain ⟨nx,hnx⟩:∃ nx:Nat->Rs,nx=(fun k=>sub (k + 1)):=⟨_,rfl⟩;have HNX:=aH hnx;obtain ⟨RS,hRS⟩:∃ r,lsO c (L.length + 1) nx (sub k)=r:=⟨_,rfl⟩;have HSP:=aH (show chO L sub k=Ox 5 RS from by rw [Px,<- hRS,hc,hnx]);have HRS:=aH hRS;have HCL:=aH (show ∀ j,c j=true->j < L.length from fun j h=>by rw [hc] at h;exact xB h);generalize chO L sub k=RES at *;clear h HP HPL hRS hc hnx;go_enter Tryz.func112,Tryz.ntmps112;go_upto_region 1 with fail;have HS1:=aH (show w.heap.size + 1<=(w.alloc (.cells #[.int .i64 0,.string ⟨#[]⟩,.int .u64 0,.int .u64 0,.int .u64 0,.int .u64 0,.slice none 0 0] 32)).heap.size by simp);generalize World.alloc w _=w1 at *;obtain ⟨N,hN⟩:∃ N,w.heap.size=N:=⟨_,rfl⟩;rw [hN] at HR HGN HS1;rw [hN];have HNN:=aH hN;clear hN;go_wp2_with fail;refine (HPP.o k hk _ H1.o).mono ?_;rintro e w2 ⟨hbu,X2,ko,kc,rfl,hq⟩;unfold exv;have HBR:=aH (HBD.o k);obtain ⟨r,hr⟩:∃ r,sub k=r:=⟨_,rfl⟩;rw [hr] at hq HBR HRS;clear hr;have HQ3:=aH (show jU w g lo lc L r w1.heap.size X2 ko (w2.alloc (.cells #[.int .i64 X2.op,.string X2.text,.int .u64 X2.s0,.int .u64 X2.s1,.int .u64 X2.s2,.int .u64 X2.s3,.slice ko X2.kids.length kc] 32)) from jU.below hq (bA _));have HQ2:=aH hq;have HR3:=aH ((HR.o.but hbu (by have:=HGN.o;omega)).on_alloc (.cells #[.int .i64 X2.op,.string X2.text,.int .u64 X2.s0,.int .u64 X2.s1,.int .u64 X2.s2,.int .u64 X2.s3,.slice ko X2.kids.length kc] 32));have HU3:=aH ((HU.o.trans hbu (fun _ _ h=>h)).alloc (.cells #[.int .i64 X2.op,.string X2.text,.int .u64 X2.s0,.int .u64 X2.s1,.int .u64 X2.s2,.int .u64 X2.s3,.slice ko X2.kids.length kc] 32));have HZ3:=aH (show w1.heap.size<=w2.heap.size from hbu.size);have HX3:=aH (Own.fresh w2 32 (iY (X2,ko,kc)));go_wp2_with fail;have H0:∃ (kk:Nat) (F:Option (Int × Int)),Rd (w2.alloc (.cells #[.int .i64 X2.op,.string X2.text,.int .u64 X2.s0,.int .u64 X2.s1,.int .u64 X2.s2,.int .u64 X2.s3,.slice ko X2.kids.length kc] 32)) g lo lc L kk F/\XS (F=none) (w2.alloc (.cells #[.int .i64 X2.op,.string X2.text,.int .u64 X2.s0,.int .u64 X2.s1,.int .u64 X2.s2,.int .u64 X2.s3,.slice ko X2.kids.length kc] 32)) (N + 1) (.slice (some ⟨w2.heap.size,0,none⟩) [X2].length 1) [X2]/\LsQ L c nx RS [X2] kk F:=by
  cases r with
  | error f =>
   obtain ⟨h1,kk,h2⟩:=HQ3.o;exact ⟨kk,some f,h2,XS.first (n:=0) HX3.o (by have:=HS1.o;have:=HZ3.o;omega) (fun h=>by cases h),h1,HRS.o.symm⟩
  | ok q =>
   obtain ⟨x,m⟩:=q;obtain ⟨h1,rfl,n,h2⟩:=HQ3.o;obtain ⟨b1,b2⟩:=HBR.o x m rfl;obtain ⟨_,_,n',h3⟩:=HQ2.o;exact ⟨m,none,h1,XS.first (n:=n') HX3.o (by have:=HS1.o;have:=HZ3.o;omega) (fun _=>((fM.ofE h3).but (But.of_below (S:=fun _=>False) (bA _)) (fun _ _ _ h=>h)).mono (fun b _ h=>by have:=HS1.o;omega)),by show 1<=m;omega,b2,_,HRS.o,by omega⟩
 obtain ⟨kk0,F0,r1,r2,r3⟩:=H0;have H10:=aH r1;have H20:=aH r2;have H30:=aH r3;have HZ4:=aH (show N + 1<=(w2.alloc (.cells #[.int .i64 X2.op,.string X2.text,.int .u64 X2.s0,.int .u64 X2.s1,.int .u64 X2.s2,.int .u64 X2.s3,.slice ko X2.kids.length kc] 32)).heap.size by have:=HS1.o;have:=HZ3.o;simp;omega);clear r1 r2 r3 hbu hq HQ3 HQ2 HX3 HBR HRS H1 HR HU HS1 HZ3;generalize w2.alloc _=w3 at *;generalize w2.heap.size=B0 at *
 go_loopw [5] (fun v5 wr=>∃ (K:List Ex) (ao:Option Addr) (cap kk:Nat) (F:Option (Int × Int)),v5=.slice ao K.length cap/\aQ (Rd wr g lo lc L kk F)/\aQ (XS (F=none) wr (N + 1) (.slice ao K.length cap) K)/\aQ (LsQ L c nx RS K kk F) ∧
   aQ (Own wr N 32 [.int .i64 0,.string ⟨#[]⟩,.int .u64 0,.int .u64 0,.int .u64 0,.int .u64 0,.slice none 0 0])/\aQ (But (fun j=>j=g) w wr)/\aQ (N + 1<=wr.heap.size)) (fun v5 _=>L.length + 2 - sliceLen v5)
 case atStart=>exact ⟨[X2],_,_,kk0,F0,rfl,H10,H20,H30,HR3,HU3,HZ4⟩
 case round =>
  obtain ⟨K,ao,cap,kk,F,rfl,HD,HXS,HLQ,HR,HU,HZ⟩:=hrel;clear H10 H20 H30 HR3 HU3 HZ4;obtain ⟨c0,c1,c2,c3,c4,c5,cg⟩:=HD.o.1.six_r
  cases F with
  | some f =>
   have c2':wr.cell? ⟨g,2,none⟩=some (.int .i64 f.1):=c2;have ef:(f.1 == 0)=false:=aN.2 HLQ.o.1;have HFE:=aH (show Pj RS K kk (some f) from HLQ.o);clear c0 c1 c2 c3 c4 c5;obtain ⟨wt,hwt⟩:∃ wt,wr=wt:=⟨_,rfl⟩;subst hwt;by_cases hk1:K.length=1
   ·
    obtain ⟨X2,rfl⟩:∃ x,K=[x]:=List.length_eq_one_iff.1 hk1;obtain ⟨bb,off,ko,kc,rfl,hbl,hbD,a0,a1,a2,a3,a4,a5,a6,hkid⟩:=HXS.o.at_ (k:=0) (x:=X2) rfl;have HKID:=aH hkid;have HBD:=aH hbD;rw [Nat.zero_mul,Nat.add_zero] at a0 a1 a2 a3 a4 a5 a6;obtain ⟨z0,z1,z2,z3,z4,z5,z6,y0,y1,y2,y3,y4,y5,y6⟩:=HR.o.seven2;have zl:=HR.o.lt;clear hkid hbD hk1;go_wp2;rw [aU];have HF:=(fX (p7 HR.o) X2 ko kc);obtain ⟨hU,hR⟩:=fX (Rd.fin HH.o (Nat.le_of_eq HNN.o) HU.o HD.o) X2 ko kc;have HBW:=aH (fX (But.set7 wr N) X2 ko kc);clear z0 z1 z2 z3 z4 z5 z6 y0 y1 y2 y3 y4 y5 y6;generalize bI _ N _ _ _ _ _ _ _=w9 at *;obtain ⟨z0,z1,z2,z3,z4,z5,z6⟩:=HF.seven;refine bodyPost_ret (by simp [results,Tryz.results112,go_sem,z0,z1,z2,z3,z4,z5,z6];rfl) rfl ?_;rw [HSP.o]
    exact ⟨hU,X2,ko,kc,rfl,jU.ends (op:=5) (K:=[X2]) hR HFE.o (fun e=>by
     obtain ⟨m,hm⟩:=HKID.o (by first | trivial | exact e)
     exact ⟨m,dD.low (by have:=HNN.o;omega) (dD.but HBW.o (fun j hj=>by omega) hm)⟩)⟩
   ·
    have hk1':decide ((K.length:Int)=1)=false:=aF (by omega);have hk1i:¬ (K.length:Int)=1:=(by omega);have HK1:=aH (uM (op:=5) hk1);obtain ⟨z0,z1,z2,z3,z4,z5,z6,y0,y1,y2,y3,y4,y5,y6⟩:=HR.o.seven2;have zl:=HR.o.lt;clear hk1;go_wp2;rw [aU];have HF:=(p7 HR.o (.int .i64 5) (.string ⟨#[]⟩) (.int .u64 0) (.int .u64 0) (.int .u64 0) (.int .u64 0) (.slice ao K.length cap));obtain ⟨hU,hR⟩:=Rd.fin HH.o (Nat.le_of_eq HNN.o) HU.o HD.o (.int .i64 5) (.string ⟨#[]⟩) (.int .u64 0) (.int .u64 0) (.int .u64 0) (.int .u64 0) (.slice ao K.length cap);have HBW:=aH (But.set7 wr N (.int .i64 5) (.string ⟨#[]⟩) (.int .u64 0) (.int .u64 0) (.int .u64 0) (.int .u64 0) (.slice ao K.length cap));clear z0 z1 z2 z3 z4 z5 z6 y0 y1 y2 y3 y4 y5 y6;generalize bI _ N _ _ _ _ _ _ _=w9 at *;obtain ⟨z0,z1,z2,z3,z4,z5,z6⟩:=HF.seven;refine bodyPost_ret (by simp [results,Tryz.results112,go_sem,z0,z1,z2,z3,z4,z5,z6];rfl) rfl ?_;rw [HSP.o]
    have hfin:=jU.ends (w:=w) (D:=w.heap.size) (op:=5) (ko:=ao) hR HFE.o (fun e=>by
     obtain ⟨m,hm⟩:=HXS.o.hasE (by first | trivial | exact e);rw [HK1.o]
     exact ⟨m,dD.low (by have:=HNN.o;omega) (dD.but HBW.o (fun j hj=>by omega) hm)⟩)
    rw [HK1.o] at hfin;exact ⟨hU,.mk 5 ⟨#[]⟩ 0 0 0 0 K,ao,cap,rfl,hfin⟩
  | none =>
   obtain ⟨f,hf,hff⟩:=HLQ.o.2.2;have c2':wr.cell? ⟨g,2,none⟩=some (.int .i64 0):=c2;have hkl:K.length<=kk:=HLQ.o.1;have hkL:kk<=L.length:=HLQ.o.2.1;have HGO:=aH (show RS=_ from by rw [<- hf,VN (by omega)]);have HFF:=aH hff;clear c0 c1 c2 c3 c4 c5 hf hff HLQ;obtain ⟨z,hz⟩:∃ z,c kk=z:=⟨_,rfl⟩
   have HCT:=aH (show ∀ W,Rd W g lo lc L kk none->Calls Tryz.prog 134 #[.pointer (some ⟨g,0,none⟩),.string ⟨#[47]⟩] W fun e w'=>e=.returned (.bool z)/\But (fun j=>j=g) W w'/\Rd w' g lo lc L (if z=true then kk + 1 else kk) none from fun W hW=>by
    have:=HTK.o kk (by omega) ⟨#[47]⟩ W hW;rw [show isS L kk (⟨#[47]⟩:ByteArray).data.toList=z from by rw [<- hz,HC.o]] at this
    exact this)
   have HZL:=aH (show z=true->kk < L.length from fun h=>HCL.o kk (hz.trans h));rw [hz] at HGO;clear hz;go_wp2_with fail;refine (HCT.o _ HD.o).mono ?_;rintro e wt ⟨rfl,hbl,hrd⟩;have HRD:=aH hrd;have HXS2:=aH (HXS.o.keep hbl (fun b h=>by have:=HGN.o;omega));have HR2:=aH (HR.o.but hbl (by have:=HGN.o;omega));have HU2:=aH (HU.o.trans hbl (fun _ _ h=>h));have HZ2:=aH (show N + 1<=wt.heap.size from Nat.le_trans HZ.o hbl.size);clear hbl hrd HCT HD HXS HR HU HZ c2' cg
   cases z
   case false =>
    have HFE:=aH (show Pj RS K kk none from HGO.o.trans (if_neg (by decide)));clear HGO HZL;have HD:=aH (show Rd wt g lo lc L kk none from HRD.o);have HXS:=HXS2;have HR:=HR2;have HU:=HU2;have HZ:=HZ2;clear HRD HXS2 HR2 HU2 HZ2;by_cases hk1:K.length=1
    ·
     obtain ⟨X2,rfl⟩:∃ x,K=[x]:=List.length_eq_one_iff.1 hk1;obtain ⟨bb,off,ko,kc,rfl,hbl,hbD,a0,a1,a2,a3,a4,a5,a6,hkid⟩:=HXS.o.at_ (k:=0) (x:=X2) rfl;have HKID:=aH hkid;have HBD:=aH hbD;rw [Nat.zero_mul,Nat.add_zero] at a0 a1 a2 a3 a4 a5 a6;obtain ⟨z0,z1,z2,z3,z4,z5,z6,y0,y1,y2,y3,y4,y5,y6⟩:=HR.o.seven2;have zl:=HR.o.lt;clear hkid hbD hk1;go_wp2;rw [aU];have HF:=(fX (p7 HR.o) X2 ko kc);obtain ⟨hU,hR⟩:=fX (Rd.fin HH.o (Nat.le_of_eq HNN.o) HU.o HD.o) X2 ko kc;have HBW:=aH (fX (But.set7 wt N) X2 ko kc);clear z0 z1 z2 z3 z4 z5 z6 y0 y1 y2 y3 y4 y5 y6;generalize bI _ N _ _ _ _ _ _ _=w9 at *;obtain ⟨z0,z1,z2,z3,z4,z5,z6⟩:=HF.seven;refine bodyPost_ret (by simp [results,Tryz.results112,go_sem,z0,z1,z2,z3,z4,z5,z6];rfl) rfl ?_;rw [HSP.o]
     exact ⟨hU,X2,ko,kc,rfl,jU.ends (op:=5) (K:=[X2]) hR HFE.o (fun e=>by
      obtain ⟨m,hm⟩:=HKID.o (by first | trivial | exact e)
      exact ⟨m,dD.low (by have:=HNN.o;omega) (dD.but HBW.o (fun j hj=>by omega) hm)⟩)⟩
    ·
     have hk1':decide ((K.length:Int)=1)=false:=aF (by omega);have hk1i:¬ (K.length:Int)=1:=(by omega);have HK1:=aH (uM (op:=5) hk1);obtain ⟨z0,z1,z2,z3,z4,z5,z6,y0,y1,y2,y3,y4,y5,y6⟩:=HR.o.seven2;have zl:=HR.o.lt;clear hk1;go_wp2;rw [aU];have HF:=(p7 HR.o (.int .i64 5) (.string ⟨#[]⟩) (.int .u64 0) (.int .u64 0) (.int .u64 0) (.int .u64 0) (.slice ao K.length cap));obtain ⟨hU,hR⟩:=Rd.fin HH.o (Nat.le_of_eq HNN.o) HU.o HD.o (.int .i64 5) (.string ⟨#[]⟩) (.int .u64 0) (.int .u64 0) (.int .u64 0) (.int .u64 0) (.slice ao K.length cap);have HBW:=aH (But.set7 wt N (.int .i64 5) (.string ⟨#[]⟩) (.int .u64 0) (.int .u64 0) (.int .u64 0) (.int .u64 0) (.slice ao K.length cap));clear z0 z1 z2 z3 z4 z5 z6 y0 y1 y2 y3 y4 y5 y6;generalize bI _ N _ _ _ _ _ _ _=w9 at *;obtain ⟨z0,z1,z2,z3,z4,z5,z6⟩:=HF.seven;refine bodyPost_ret (by simp [results,Tryz.results112,go_sem,z0,z1,z2,z3,z4,z5,z6];rfl) rfl ?_;rw [HSP.o]
     have hfin:=jU.ends (w:=w) (D:=w.heap.size) (op:=5) (ko:=ao) hR HFE.o (fun e=>by
      obtain ⟨m,hm⟩:=HXS.o.hasE (by first | trivial | exact e);rw [HK1.o]
      exact ⟨m,dD.low (by have:=HNN.o;omega) (dD.but HBW.o (fun j hj=>by omega) hm)⟩)
     rw [HK1.o] at hfin;exact ⟨hU,.mk 5 ⟨#[]⟩ 0 0 0 0 K,ao,cap,rfl,hfin⟩
   case true =>
    have hkl2:=HZL.o rfl;have HGT:=aH (HGO.o.trans (if_pos rfl));obtain ⟨k2,hk2e⟩:∃ k2,k2=kk + 1:=⟨_,rfl⟩;have HD3:=aH (show Rd wt g lo lc L k2 none from by rw [hk2e];exact HRD.o);have HNK:=aH (show nx kk=sub k2 from by rw [HNX.o,hk2e]);have hk2l:k2<=L.length:=(by omega);have HKK:=aH (show kk<=k2 by omega);clear hk2e HRD HGO HZL;rw [HNK.o] at HGT;go_wp2_with fail;refine (HPP.o k2 hk2l _ HD3.o).mono ?_;rintro e w4 ⟨hbu,X2,ko,kc,rfl,hq⟩;unfold exv;have HBR:=aH (HBD.o k2);obtain ⟨r,hr⟩:∃ r,sub k2=r:=⟨_,rfl⟩;rw [hr] at hq HBR HGT;clear hr HNK;have HBU:=aH hbu;have HQ:=aH hq;have HR4:=aH ((HR2.o.but hbu (by have:=HGN.o;omega)).on_alloc (.cells #[.int .i64 X2.op,.string X2.text,.int .u64 X2.s0,.int .u64 X2.s1,.int .u64 X2.s2,.int .u64 X2.s3,.slice ko X2.kids.length kc] 32));have HU4:=aH ((HU2.o.trans hbu (fun _ _ h=>h)).alloc (.cells #[.int .i64 X2.op,.string X2.text,.int .u64 X2.s0,.int .u64 X2.s1,.int .u64 X2.s2,.int .u64 X2.s3,.slice ko X2.kids.length kc] 32));have HQ4:=aH (show jU w g lo lc L r wt.heap.size X2 ko (w4.alloc (.cells #[.int .i64 X2.op,.string X2.text,.int .u64 X2.s0,.int .u64 X2.s1,.int .u64 X2.s2,.int .u64 X2.s3,.slice ko X2.kids.length kc] 32)) from jU.below hq (bA _));have HB4:=aH (show Below w4.heap.size w4 (w4.alloc (.cells #[.int .i64 X2.op,.string X2.text,.int .u64 X2.s0,.int .u64 X2.s1,.int .u64 X2.s2,.int .u64 X2.s3,.slice ko X2.kids.length kc] 32)) from bA _);have HS4:=aH (show wt.heap.size<=w4.heap.size/\w4.heap.size < (w4.alloc (.cells #[.int .i64 X2.op,.string X2.text,.int .u64 X2.s0,.int .u64 X2.s1,.int .u64 X2.s2,.int .u64 X2.s3,.slice ko X2.kids.length kc] 32)).heap.size from ⟨hbu.size,by simp⟩);clear hbu hq HR2 HU2 HD3;have HXT:=HXS2;obtain ⟨R,S,Z,n,s1,s2,s3,s4,s5⟩:=HXS2.o;have HLZ:=aH (show Z.length=K.length from by rw [<- s3,List.length_map]);have HS1:=aH s1;have HS2:=aH s2;have HS3:=aH s3;have HS5:=aH s5;have HWN:=aH ((s4.keep HBU.o (fun g' hg' hs e=>by have:=s1 g' (.inr hs);have:=HGN.o;omega)).below HB4.o);clear s1 s2 s3 s4 s5 HXS2;obtain ⟨i0,hi,hz0,hz1,hz2⟩:=cZ Mi;have HNEW:=aH (fun W=>bD W 32 (iY (X2,ko,kc)));have HCEL:=aH (show ∀ u ∈ iY (X2,ko,kc),u.oneCell'=true by intro u hu;simp [iY] at hu;rcases hu with rfl | rfl | rfl | rfl | rfl | rfl | rfl <;> rfl);obtain ⟨nK,hnK⟩:∃ n,K.length=n:=⟨_,rfl⟩;rw [hnK] at HWN HLZ hkl;rw [HLZ.o] at HWN;rw [hnK];have HKN:=aH hnK;clear hnK
    go_wp2_with (first
     | (at_builtin;refine aX _ rfl _ _ 30 rfl S 32 i0 _ 7 80 Tryz.underlying30 hi hz0 hz1 hz2 rfl (by decide) _ nK (Z.flatMap iY) rfl HWN.o ⟨w4.heap.size,0,none⟩ 1 1 (iY (X2,ko,kc)) rfl rfl (HNEW.o w4) HCEL.o (by unfold maxLen;omega) (by omega) ?_))
    intro v' w7 hw7 hb7;have HW7:=aH hw7;have HB7:=aH hb7;have HSG:=aH (show ∀ b,S b->N < b from fun b hb=>by have:=HS1.o b (.inr hb);omega);have HR7:=aH (HR4.o.but hb7 (fun h=>by have:=HSG.o _ h;omega));have HU7:=aH (HU4.o.trans hb7 (fun j hj hs=>by have:=HSG.o _ hs;have:=HNN.o;omega));have HZ7:=aH (show N + 1<=w7.heap.size from by have:=HZ2.o;have:=HS4.o;have:=hb7.size;omega);have HSZ:=aH (show g < N + 1/\N + 1<=wt.heap.size from ⟨by have:=HGN.o;omega,HZ2.o⟩);have H0:∃ (kk:Nat) (F:Option (Int × Int)),Rd w7 g lo lc L kk F/\XS (F=none) w7 (N + 1) v' (K ++ [X2])/\LsQ L c nx RS (K ++ [X2]) kk F:=by
     rw [<- HS3.o];have hw7':Win (fun b=>S b\/(w4.alloc (.cells #[.int .i64 X2.op,.string X2.text,.int .u64 X2.s0,.int .u64 X2.s1,.int .u64 X2.s2,.int .u64 X2.s3,.slice ko X2.kids.length kc] 32)).heap.size<=b) 32 7 w7 v' (Z.length + 1) (Z.flatMap iY ++ iY (X2,ko,kc)):=(by rw [HLZ.o];exact HW7.o.mono (fun b _ h=>by simpa using h));have hgS:¬ S g:=fun h=>(by have:=HSG.o _ h;have:=HGN.o;omega);have hRd:∀ m F,Rd (w4.alloc (.cells #[.int .i64 X2.op,.string X2.text,.int .u64 X2.s0,.int .u64 X2.s1,.int .u64 X2.s2,.int .u64 X2.s3,.slice ko X2.kids.length kc] 32)) g lo lc L m F->Rd w7 g lo lc L m F:=fun m F h=>⟨h.1.but HB7.o hgS,HH.o.2.1.but HH.o.2.2 HU7.o,HH.o.2.2⟩
     cases r with
     | error f =>
      obtain ⟨h1,k3,h2⟩:=HQ4.o;exact ⟨k3,some f,hRd _ _ h2,XS.snoc (G:=some f=none) (n:=0) (n':=0) HSZ.o.1 HSZ.o.2 HS1.o HS2.o (fun h=>by cases h) HBU.o (fun h=>by cases h) HB4.o hw7' HB7.o,h1,HGT.o⟩
     | ok q =>
      obtain ⟨x,m⟩:=q;obtain ⟨h1,rfl,n1,h2⟩:=HQ4.o;obtain ⟨b1,b2⟩:=HBR.o x m rfl;obtain ⟨_,_,n',h3⟩:=HQ.o;exact ⟨m,none,hRd _ _ h1,XS.snoc (G:=(none:Option (Int × Int))=none) (n':=n') HSZ.o.1 HSZ.o.2 HS1.o HS2.o (fun h=>HS5.o (by first | trivial | exact rfl)) HBU.o (fun _=>h3) HB4.o hw7' HB7.o,by rw [HS3.o,List.length_append,HKN.o];show nK + 1<=m;have:=HKK.o;omega,b2,f - 1,by rw [HS3.o];exact HGT.o.symm,by have:=HKK.o;have:=HFF.o;omega⟩
    obtain ⟨k9,F9,r1,r2,r3⟩:=H0;obtain ⟨ao',cap',hv⟩:=r2.form;have hv2:v'=.slice ao' (nK + 1) cap':=(by rw [hv,List.length_append,HKN.o];rfl);have hln:(K ++ [X2]).length=nK + 1:=(by rw [List.length_append,HKN.o];rfl);subst hv2;have H19:=aH r1;have H29:=aH (show XS (F9=none) w7 (N + 1) (.slice ao' (K ++ [X2]).length cap') (K ++ [X2]) from by rw [hln];exact r2);have H39:=aH r3;have HLN:=aH hln;clear r1 r2 r3 hw7 hb7 hv hln;go_wp2
    go_roundw
    case rel=>exact ⟨K ++ [X2],ao',cap',k9,F9,by rw [HLN.o],H19,H29,H39,HR7,HU7,HZ7⟩
    case measure=>have:=HKN.o;simp [sliceLen];omega
end Go.Proofs.YthkdnehgamefiaaGreat
