import Derived.Deep.AppendSrc
import Derived.Test.YthkdnehgamefiaaGreatHq
namespace Go.Proofs.YthkdnehgamefiaaGreat
set_option linter.unusedVariables false
set_option maxRecDepth 1000000
open Go.RowKit
theorem rE {P:Program} (w:World) (t tx ty:TypeId)
  (S:Nat->Prop) (e:TypeId) (i:TypeInfo) (z:Value) (size bytes:Nat) (h1:P.underlying t=some (.slice e)) (h2:P.info? e=some i) (h3:i.zero=some z) (h4:i.size=size) (h5:i.bytes=bytes) (h6:z.cells.size=size) (h7:0 < size)
  (v:Value) (n:Nat) (xs:List Value) (hown:Win S e size w v n xs)
  (x:Value) (m:Nat) (news:List Value) (hs:Src P size tx x m news w)
  (b1:n + m<=maxLen) (b2:(n + m) * bytes<=140737488355328) :
  ∃ v' w',(Builtin.append_ #[t,tx] ty #[v,x]).run P w=.ok v' w'/\Win (fun g=>S g\/w.heap.size<=g) e size w' v' (n + m) (xs ++ news)/\But S w w':=by
 subst h4;subst h5;obtain ⟨hl,hcase⟩:=hown;have hn:=hs.newsLen;have hsmall:n + m<=9223372036854775807:=by simp only [maxLen] at b1;omega
 have hlen:(xs ++ news).length=(n + m) * i.size:=by rw [List.length_append,hl,hn,Nat.add_mul]
 have grow:∀ (base:Option Addr) (cap:Nat),(Builtin.firstCells i.size n (.slice base n cap)).run P w.drew=.ok xs.toArray w.drew->cap < n + m →
   ∃ v' w',(Builtin.append_ #[t,tx] ty #[.slice base n cap,x]).run P w=.ok v' w'/\Win (fun g=>S g\/w.heap.size<=g) e i.size w' v' (n + m) (xs ++ news)/\But S w w':=by
  intro base cap hold hg;have hge:=grownCap_ge w (n + m) cap e;have hcm:grownCap w (n + m) cap e<=maxLen:=grownCap_le_maxLen w (n + m) cap e b1;have hr:=run_append_grow_src (P:=P) w t tx ty e i z h1 h2 h3 base n cap xs hold x m news hs hg (by omega) (growslice_fits hg b2);refine ⟨_,_,hr,⟨hlen,.inr ⟨w.heap.size,0,_,_,rfl,.inr (Nat.le_refl _),heap_alloc_new w.drew _,hge,hcm,?_,?_⟩⟩,((But.refl S w).drew).alloc _⟩
  · simp only [Array.size_append,List.size_toArray,size_zeroCells,h6,hl,hn,List.length_append,<- Nat.add_mul];rw [Nat.zero_add];exact Nat.mul_le_mul_right _ (by omega)
  · simp only [Array.toList_append,List.append_assoc,List.drop_zero];rw [<- List.append_assoc,<- hlen];exact List.take_left
 rcases hcase with ⟨rfl,rfl⟩ | ⟨g,off,cap,cur,rfl,hS,hh,hnc,hcm,hsz,ht⟩
 ·
  have hx0:xs=[]:=List.eq_nil_of_length_eq_zero (by omega);subst hx0;by_cases hm:m=0
  · subst hm;have hnews:news=[]:=List.eq_nil_of_length_eq_zero (by omega);subst hnews;refine ⟨.slice none 0 0,w,?_,⟨by simp,.inl ⟨rfl,rfl⟩⟩,But.refl S w⟩;rcases hs.kind with ⟨e',hk⟩ | hk <;> simp [Builtin.append_,run_underlying h1,run_underlying hk,sizeOf,typeInfo,h2,hs.len,hs.cells]
  · exact grow none 0 (run_firstCells_none w.drew i.size 0 0 0) (by omega)
 ·
  have hxs:∀ j u,xs[j]?=some u->w.cell? ⟨g,off + j,none⟩=some u:=fun j u hj=>by rw [cell_of_row w g _ cur e (0,0) hh,<- hj,<- ht,List.getElem?_take,if_pos (by have:=(aS.1 hj).1;omega),List.getElem?_drop];simp
  by_cases hr:n + m<=cap
  ·
   have hr2:off + n * i.size + news.length<=cur.size:=by have:=Nat.mul_le_mul_right i.size hr;rw [hn,Nat.add_assoc,<- Nat.add_mul];omega
   have hrun:=run_append_room_src (P:=P) w t tx ty e i h1 h2 g off n cap x m news hs hr
    (fun j hj=>by rw [cell_of_row w g _ cur e (0,0) hh,Array.getElem?_eq_getElem (by omega)];rfl) (fun j hj=>frozen_of_row w g _ cur e hh)
   obtain ⟨cur',e1,e2,e3,e4⟩:=vS g e news (off + n * i.size) w cur hh;refine ⟨_,_,hrun,⟨hlen,.inr ⟨g,off,cap,cur',rfl,.inl hS,e1,hr,hcm,by omega,?_⟩⟩,(But.refl S w).grown e4 fun k hk _=>by cases hk;exact hS⟩;apply List.ext_getElem?;intro j;rw [List.getElem?_take,List.getElem?_drop,Array.getElem?_toList,e3];by_cases c1:j < n * i.size
   · rw [if_pos (by rw [Nat.add_mul];omega),if_neg (by omega),List.getElem?_append_left (by omega),<- ht,List.getElem?_take,if_pos c1,List.getElem?_drop];simp
   ·
    by_cases c2:j < (n + m) * i.size
    ·
     rw [if_pos c2,List.getElem?_append_right (by omega),if_pos (by rw [Nat.add_mul] at c2;omega)]
     congr 1;omega
    · rw [if_neg c2,List.getElem?_eq_none (by rw [hlen];omega)]
  · exact grow (some ⟨g,off,none⟩) cap (run_firstCells_some w.drew i.size n ⟨g,off,none⟩ n cap xs hl (fun j u hj=>by rw [Addr.add_lit];simpa using hxs j u hj)) (by omega)
section
variable {P:Program} {ops:Array Oper} {Q:Exit->Act->World->Prop}
theorem Bh {i':Nat} {o:Oper} {a:Act} {w:World} {K:Act->World->Prop} (ei:ops[i']?=some o) (hg:Region.wanted o (yielded ops a.tmps)=true) (s x:Operand) (t tx:TypeId)
  (hop:o.op=Op.call { callee:=Callee.builtin Builtin.append,args:=#[s,x],argTypes:=#[t,tx] })
  (S:Nat->Prop) (e:TypeId) (i:TypeInfo) (z:Value) (size bytes:Nat) (h1:P.underlying t=some (.slice e)) (h2:P.info? e=some i) (h3:i.zero=some z) (h4:i.size=size) (h5:i.bytes=bytes) (h6:z.cells.size=size) (h7:0 < size)
  (v:Value) (n:Nat) (xs:List Value) (hs:a.eval s=v) (hown:Win S e size w v n xs)
  (u:Value) (m:Nat) (news:List Value) (hx:a.eval x=u) (hsrc:Src P size tx u m news w)
  (b1:n + m<=maxLen) (b2:(n + m) * bytes<=140737488355328)
  (hK:∀ v' w',Win (fun g=>S g\/w.heap.size<=g) e size w' v' (n + m) (xs ++ news)->But S w w'->K (a.put o.dst v') w'):wpOp P ops Q i' K a w:=by
 unfold wpOp;rw [ei];simp only [];rw [if_pos hg];obtain ⟨v',w',hrun,r1,r2⟩:=rE (P:=P) w t tx o.type S e i z size bytes h1 h2 h3 h4 h5 h6 h7 v n xs hown u m news hsrc b1 b2;left;unfold Oper.wp;simp [execOp,hop,resolve,invoke,builtin,hs,hx,hrun,Result.andThen];exact hK v' w' r1 r2
end
theorem Win.one {w:World} {B:Nat} {e:TypeId} {size:Nat} {cs:List Value} (h:Own w B e cs) (hl:cs.length=size):Win (fun b=>b=B) e size w (.slice (some ⟨B,0,none⟩) 1 1) 1 cs :=
 ⟨by omega,.inr ⟨B,0,1,_,rfl,rfl,h,Nat.le_refl _,by unfold maxLen;omega,by simp;omega,by rw [Nat.one_mul,<- hl];simp⟩⟩
section
variable {w:World} {g:Nat} {t:TypeId} {v0 v1 v2 v3 v4 v5 v6 v7 v8 v9 vA:Value}
theorem Own.elev (h:Own w g t [v0,v1,v2,v3,v4,v5,v6,v7,v8,v9,vA]) :
  w.cell? ⟨g,0,none⟩=some v0/\w.cell? ⟨g,1,none⟩=some v1/\w.cell? ⟨g,2,none⟩=some v2/\w.cell? ⟨g,3,none⟩=some v3/\w.cell? ⟨g,4,none⟩=some v4/\w.cell? ⟨g,5,none⟩=some v5/\w.cell? ⟨g,6,none⟩=some v6/\w.cell? ⟨g,7,none⟩=some v7/\w.cell? ⟨g,8,none⟩=some v8/\w.cell? ⟨g,9,none⟩=some v9/\w.cell? ⟨g,10,none⟩=some vA :=
 ⟨h.cell 0,h.cell 1,h.cell 2,h.cell 3,h.cell 4,h.cell 5,h.cell 6,h.cell 7,h.cell 8,h.cell 9,h.cell 10⟩
theorem Own.elevf (h:Own w g t [v0,v1,v2,v3,v4,v5,v6,v7,v8,v9,vA]) :
  w.frozen? ⟨g,0,none⟩=false/\w.frozen? ⟨g,1,none⟩=false/\w.frozen? ⟨g,2,none⟩=false/\w.frozen? ⟨g,3,none⟩=false/\w.frozen? ⟨g,4,none⟩=false/\w.frozen? ⟨g,5,none⟩=false/\w.frozen? ⟨g,6,none⟩=false/\w.frozen? ⟨g,7,none⟩=false/\w.frozen? ⟨g,8,none⟩=false/\w.frozen? ⟨g,9,none⟩=false/\w.frozen? ⟨g,10,none⟩=false :=
 ⟨h.thaw 0,h.thaw 1,h.thaw 2,h.thaw 3,h.thaw 4,h.thaw 5,h.thaw 6,h.thaw 7,h.thaw 8,h.thaw 9,h.thaw 10⟩
def setEl (w:World) (g:Nat) (u0 u1 u2 u3 u4 u5 u6 u7 u8 u9 uA:Value):World :=
 ((((((((((w.setCell ⟨g,0,none⟩ u0).setCell ⟨g,1,none⟩ u1).setCell ⟨g,2,none⟩ u2).setCell ⟨g,3,none⟩ u3).setCell ⟨g,4,none⟩ u4).setCell ⟨g,5,none⟩ u5).setCell ⟨g,6,none⟩ u6).setCell ⟨g,7,none⟩ u7).setCell ⟨g,8,none⟩ u8).setCell ⟨g,9,none⟩ u9).setCell ⟨g,10,none⟩ uA
theorem mZ (w:World) (g:Nat) (u0 u1 u2 u3 u4 u5 u6 u7 u8 u9 uA:Value) :
 ((((((((((w.setCell ⟨g,0,none⟩ u0).setCell ⟨g,1,none⟩ u1).setCell ⟨g,2,none⟩ u2).setCell ⟨g,3,none⟩ u3).setCell ⟨g,4,none⟩ u4).setCell ⟨g,5,none⟩ u5).setCell ⟨g,6,none⟩ u6).setCell ⟨g,7,none⟩ u7).setCell ⟨g,8,none⟩ u8).setCell ⟨g,9,none⟩ u9).setCell ⟨g,10,none⟩ uA=setEl w g u0 u1 u2 u3 u4 u5 u6 u7 u8 u9 uA:=rfl
theorem Own.putEl (h:Own w g t [v0,v1,v2,v3,v4,v5,v6,v7,v8,v9,vA]) (u0 u1 u2 u3 u4 u5 u6 u7 u8 u9 uA:Value):Own (setEl w g u0 u1 u2 u3 u4 u5 u6 u7 u8 u9 uA) g t [u0,u1,u2,u3,u4,u5,u6,u7,u8,u9,uA] :=
 ((((((((((h.put 0 u0).put 1 u1).put 2 u2).put 3 u3).put 4 u4).put 5 u5).put 6 u6).put 7 u7).put 8 u8).put 9 u9).put 10 uA
theorem But.setEl (w:World) (g:Nat) (u0 u1 u2 u3 u4 u5 u6 u7 u8 u9 uA:Value):But (fun j=>j=g) w (setEl w g u0 u1 u2 u3 u4 u5 u6 u7 u8 u9 uA) :=
 (((((((((((But.refl (fun j=>j=g) w).setCell (p:=⟨g,0,none⟩) (fun _=>rfl) u0).setCell (p:=⟨g,1,none⟩) (fun _=>rfl) u1).setCell (p:=⟨g,2,none⟩) (fun _=>rfl) u2).setCell (p:=⟨g,3,none⟩) (fun _=>rfl) u3).setCell (p:=⟨g,4,none⟩) (fun _=>rfl) u4).setCell (p:=⟨g,5,none⟩) (fun _=>rfl) u5).setCell (p:=⟨g,6,none⟩) (fun _=>rfl) u6).setCell (p:=⟨g,7,none⟩) (fun _=>rfl) u7).setCell (p:=⟨g,8,none⟩) (fun _=>rfl) u8).setCell (p:=⟨g,9,none⟩) (fun _=>rfl) u9).setCell (p:=⟨g,10,none⟩) (fun _=>rfl) uA
end
open Go.Sort
def AP (L:List Tok) (r:Except Ft2 (ByteArray × Nat)) (R:ByteArray->Nat->Except Ft2 (Md × Nat)):Except Ft2 (Md × Nat):=match r with
 | .error e=>.error e
 | .ok (x,k)=>match oO L [59] k with
  | .error e=>.error e
  | .ok k1=>R x k1
def hdT (L:List Tok) (nm:ByteArray):Except Ft2 (List ByteArray × Nat)->Except Ft2 (Md × Nat)
 | .error e=>.error e
 | .ok (im,k)=>BG L nm im k
theorem VF (L:List Tok):Oz L=if wdB L 0 1 [109,111,100,117,108,101]=true then AP L (pV L [] 1) (fun nm k=>hdT L nm (yD L nm (L.length + 1) [] k)) else .error (gH L 2 0):=by
 unfold Oz AP;split
 ·
  cases pV L [] 1 with
  | error e=>rfl
  | ok p =>
   obtain ⟨x,m⟩:=p;show (match oO L [59] m with | .error e=>Except.error e | .ok k1=>(match yD L x (L.length + 1) [] k1 with | .error e=>Except.error e | .ok (im,k2)=>BG L x im k2))=(match oO L [59] m with | .error e=>Except.error e | .ok k1=>hdT L x (yD L x (L.length + 1) [] k1))
   cases oO L [59] m with
   | error e=>rfl
   | ok k1 =>
    show (match yD L x (L.length + 1) [] k1 with | .error e=>Except.error e | .ok (im,k2)=>BG L x im k2)=hdT L x (yD L x (L.length + 1) [] k1)
    cases yD L x (L.length + 1) [] k1 <;> rfl
 · rfl
theorem gI.nil (w:World) (ao:Option Addr):gI w ao []:=fun k x h=>by simp at h
end Go.Proofs.YthkdnehgamefiaaGreat
namespace Go.Proofs.YthkdnehgamefiaaGreat
set_option linter.unusedVariables false
set_option maxRecDepth 1000000
section
variable {P:Program} {ops:Array Oper} {Q:Exit->Act->World->Prop} {md:Region.Mode} {S:World->Prop} {z:Nat}
def bK (P:Program) (md:Region.Mode) (ops:Array Oper) (Q:Exit->Act->World->Prop) (S:World->Prop) (z:Nat):Nat->Array Bool->Act->World->Prop
 | 0,l,a,w=>Region.ready md ops l=[]/\Q .normal a w
 | n + 1,l,a,w=>(Region.ready md ops l=[]->Q .normal a w) ∧
   ∀ j ∈ Region.ready md ops l,wpOp P ops Q j (fun b v=>(j=z\/S v)/\bK P md ops Q S z n (l.setIfInBounds j true) b v) a w
theorem bK.any:∀ (n:Nat) (l:Array Bool) (a:Act) (w:World),bK P md ops Q S z n l a w->wpAny P md ops Q n l a w
 | 0,_,_,_,h=>h
 | n + 1,l,a,w,h=>⟨h.1,fun j hj=>wpOp_mono (fun b v hb=>bK.any n _ b v hb.2) (h.2 j hj)⟩
def waits (md:Region.Mode) (ops:Array Oper) (z i:Nat):Bool:=match ops[z]? with
 | some o=>o.after.any (fun e=>Region.binds md e && e.on == i)
 | none=>false
theorem waits.not_ready {i:Nat} {l:Array Bool} (h:waits md ops z i=true) (hi:i ∈ Region.ready md ops l):z ∉ Region.ready md ops l:=by
 intro hz;obtain ⟨h0,-⟩:=mem_ready.1 hi;obtain ⟨-,o,ho,hall⟩:=mem_ready.1 hz;unfold waits at h;rw [ho] at h;obtain ⟨e,he,hb⟩:=Array.any_eq_true'.1 h;rw [Bool.and_eq_true,beq_iff_eq] at hb;have h1:=hall e he hb.1;rw [hb.2] at h1;rcases Nat.lt_or_ge i l.size with h2 | h2
 ·
  simp [h2] at h0 h1;rw [h0] at h1
  cases h1
 · simp [Array.getElem?_eq_none h2] at h1
theorem bK.take_first {i:Nat} {oi:Oper} {v:Value} (hi:ops[i]?=some oi) (hs:Region.noSelect ops=true) (hz:waits md ops z i=true) (hQ:∀ c a w,Q (.panic c) (a.put oi.dst v) w->Q (.panic c) a w) :
  ∀ (n:Nat) (l:Array Bool) (a:Act) (w:World),(∀ j oj,ops[j]?=some oj->j ≠ i->l.getD j true=false->(∀ e ∈ oj.after,Region.binds md e=true->e.on ≠ i)->oi.apart ops oj=true) →
   i ∈ Region.ready md ops l->YieldsIf P ops S oi v a->S w->bK P md ops Q S z n (l.setIfInBounds i true) (a.put oi.dst v) w->bK P md ops Q S z (n + 1) l a w
 | n,l,a,w,hf,hr,hy,hS,H=>by
  refine ⟨fun h=>absurd hr (by rw [h];exact List.not_mem_nil),fun j hj=>?_⟩;rcases Nat.decEq j i with hji | hji
  ·
   have hj2:=ready_mono hj hji;have hjz:j ≠ z:=fun e=>waits.not_ready hz hr (e ▸ hj)
   cases n with
   | zero=>rw [H.1] at hj2;exact absurd hj2 List.not_mem_nil
   | succ n =>
    obtain ⟨h0,oj,ho,hall⟩:=mem_ready.1 hj;have hap:oi.apart ops oj=true:=hf j oj ho hji h0 fun e he hb heq=>by
     have h1:=hall e he hb;have h2:=(mem_ready.1 hr).1;rw [heq] at h1;rcases Nat.lt_or_ge i l.size with h3 | h3
     ·
      simp [h3] at h1 h2;rw [h2] at h1
      cases h1
     · simp [Array.getElem?_eq_none h3] at h1
    have h4:=wpOp_putIf ho hap (fun cs b=>Region.noSelect_spec hs i oi cs b hi) (fun cs b=>Region.noSelect_spec hs j oj cs b ho) hQ hy (H.2 j hj2);refine wpOp_mono (fun b u h5=>?_) h4;have hSu:S u:=h5.2.1.resolve_left hjz;refine ⟨.inr hSu,bK.take_first hi hs hz hQ n _ b u (fun k ok hk hki hun hno=>?_) (ready_mono hr (Ne.symm hji)) h5.1 hSu ?_⟩
    ·
     refine hf k ok hk hki ?_ hno;rcases Nat.decEq j k with e | e
     · rw [getD_set_ne true e] at hun;exact hun
     · subst e;exact h0
    · rw [Array.setIfInBounds_comm _ _ hji];exact h5.2.2
  · subst hji;exact hy.wpOp hi hS ⟨.inr hS,H⟩
theorem bK.take {i:Nat} {oi:Oper} {v:Value} {n:Nat} {l:Array Bool} {a:Act} {w:World} (hi:ops[i]?=some oi) (hz:waits md ops z i=true) (hs:Region.noSelect ops=true) (hf:Region.free md ops l i=true) (hr:(Region.ready md ops l).contains i=true)
  (hQ:∀ c a w,Q (.panic c) (a.put oi.dst v) w->Q (.panic c) a w) (hy:YieldsIf P ops S oi v a) (hS:S w)
  (h:bK P md ops Q S z n (l.setIfInBounds i true) (a.put oi.dst v) w):bK P md ops Q S z (n + 1) l a w :=
 bK.take_first hi hs hz hQ n l a w (Region.free_spec hi hf) (by simpa using hr) hy hS h
theorem bK.one {i:Nat} {n:Nat} {l:Array Bool} {a:Act} {w:World} (hr:Region.ready md ops l=[i]) (h:wpOp P ops Q i (fun b v=>(i=z\/S v)/\bK P md ops Q S z n (l.setIfInBounds i true) b v) a w):bK P md ops Q S z (n + 1) l a w :=
 ⟨fun h0=>absurd (hr.symm.trans h0) (by simp),by rw [hr];intro j hj;obtain rfl:=List.mem_singleton.1 hj;exact h⟩
theorem bK.done {l:Array Bool} {a:Act} {w:World} (hr:Region.ready md ops l=[]) (h:Q .normal a w):∀ n,bK P md ops Q S z n l a w
 | 0=>⟨hr,h⟩
 | n + 1=>⟨fun _=>h,by rw [hr];simp⟩
end
open Go.RowKit Go.Sort
def nJ (w:World) (R:Nat->Prop) (ao:Option Addr) (l:List ByteArray):Prop:=∀ k x,l[k]?=some x->∃ b off,ao=some ⟨b,off,none⟩/\b < w.heap.size/\R b/\w.cell? ⟨b,off + k,none⟩=some (.string x)
theorem nJ.but {S R:Nat->Prop} {w w':World} {ao:Option Addr} {l:List ByteArray} (h:nJ w R ao l) (hb:But S w w') (hS:∀ j,j < w.heap.size->R j->¬ S j):nJ w' R ao l:=fun k x hx=>by obtain ⟨b,off,e,hlt,hr,c⟩:=h k x hx;exact ⟨b,off,e,aL hlt hb.size,hr,hb.cell (hS b hlt hr) c⟩
theorem nJ.mono {R T:Nat->Prop} {w:World} {ao:Option Addr} {l:List ByteArray} (h:nJ w R ao l) (hR:∀ b,b < w.heap.size->R b->T b):nJ w T ao l:=fun k x hx=>by obtain ⟨b,off,e,hlt,hr,c⟩:=h k x hx;exact ⟨b,off,e,hlt,hR b hlt hr,c⟩
theorem A0I {S:Nat->Prop} {w:World} {ao:Option Addr} {n c:Nat} {l:List ByteArray} (h:Win S 9 1 w (.slice ao n c) n (l.map Value.string)):nJ w S ao l:=fun k x hx=>by
 have hk:k < l.length:=(aS.1 hx).1;have hn:l.length=n:=by have:=h.1;simpa using this
 obtain ⟨ao',cap,e1,h1,h2,hf⟩:=h.form;injection e1 with e1 e2 e3;subst e1;obtain ⟨g,off,e,hs,hg,hc,_⟩:=hf k (by omega);exact ⟨g,off,e,hg,hs,by rw [hc,List.getElem?_map,hx];rfl⟩
def C0c (nm:ByteArray) (im:List ByteArray):Rs->Except Ft2 (Md × Nat)
 | .error e=>.error e
 | .ok (x,m)=>.ok (⟨nm,im,true,x,[]⟩,m)
theorem XV (L:List Tok) (nm:ByteArray) (im:List ByteArray) (k:Nat):BG L nm im k=if wdB L k 1 [119,97,116,101,114]=true then C0c nm im (uW L (k + 1)) else .ok (⟨nm,im,false,ex0,[]⟩,k):=by
 unfold BG;split
 · cases uW L (k + 1) <;> rfl
 · rfl
end Go.Proofs.YthkdnehgamefiaaGreat
