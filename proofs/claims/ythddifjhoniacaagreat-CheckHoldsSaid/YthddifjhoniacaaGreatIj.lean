import Derived.Orders
import Derived.Below
import Derived.Test.YthddifjhoniacaaGreatHc
namespace Go.Proofs.YthddifjhoniacaaGreat
set_option linter.unusedVariables false
open Go.RowKit Go.Sort
section
variable {P:Program} {ops:Array Oper} {Q:Exit->Act->World->Prop} {md:Region.Mode}
theorem Ki (a:Act) {s t:Nat} (h:s ≠ t) (u v:Value):(a.put (some s) u).put (some t) v=(a.put (some t) v).put (some s) u:=by
 unfold Act.put;simp only []
 congr 1
 exact Array.setIfInBounds_comm _ _ h
def fF (P:Program) (ops:Array Oper) (Q:Exit->Act->World->Prop) (o:Oper) (I:World->Prop) (a:Act) (w:World) (R:Value->World->Prop):Prop :=
 Region.wanted o (yielded ops a.tmps)=true/\∀ K:Act->World->Prop,(∀ v w',Below w.heap.size w w'->I w'->R v w'->K (a.put o.dst v) w')->o.wp P a w K Q
theorem fF.at_ {o:Oper} {I:World->Prop} {a:Act} {w:World} {R:Value->World->Prop} (h:fF P ops Q o I a w R) {i:Nat} (e:ops[i]?=some o) {K:Act->World->Prop}
  (hK:∀ v w',Below w.heap.size w w'->I w'->R v w'->K (a.put o.dst v) w'):wpOp P ops Q i K a w:=by
 unfold wpOp;rw [e];simp only [];rw [if_pos h.1];exact .inl (h.2 K hK)
theorem eY {i:Nat} {fuel:Nat} {l:Array Bool} {a:Act} {w:World} (hr:Region.ready md ops l=[i]) (h:wpOp P ops Q i (wpAny P md ops Q fuel (l.setIfInBounds i true)) a w):wpAny P md ops Q (fuel + 1) l a w :=
 wpAny_all hr (by simp) fun x hx=>by obtain rfl:=List.mem_singleton.1 hx;exact h
theorem UK {i k:Nat} {fuel:Nat} {l:Array Bool} {a:Act} {w:World} (hr:Region.ready md ops l=[i,k]) (h1:wpOp P ops Q i (wpAny P md ops Q fuel (l.setIfInBounds i true)) a w)
  (h2:wpOp P ops Q k (wpAny P md ops Q fuel (l.setIfInBounds k true)) a w):wpAny P md ops Q (fuel + 1) l a w :=
 wpAny_all hr (by simp) fun x hx=>by
  simp only [List.mem_cons,List.not_mem_nil,or_false] at hx;rcases hx with rfl | rfl
  · exact h1
  · exact h2
theorem yT {i j k:Nat} {oi oj ok:Oper} {si sj sk:Nat} {fuel:Nat} {l:Array Bool} {a:Act} {w:World} {I:World->Prop} {Ri Rj Rk:Value->World->Prop}
  (ei:ops[i]?=some oi) (ej:ops[j]?=some oj) (ek:ops[k]?=some ok) (di:oi.dst=some si) (dj:oj.dst=some sj) (dk:ok.dst=some sk)
  (hij:si ≠ sj) (hik:si ≠ sk) (hjk:sj ≠ sk) (nik:i ≠ k) (njk:j ≠ k)
  (r1:Region.ready md ops l=[i,k]) (r2:Region.ready md ops (l.setIfInBounds i true)=[j,k]) (r3:Region.ready md ops ((l.setIfInBounds i true).setIfInBounds j true)=[k])
  (r4:Region.ready md ops (l.setIfInBounds k true)=[i]) (r5:Region.ready md ops ((l.setIfInBounds i true).setIfInBounds k true)=[j])
  (hI:I w)
  (Hi:∀ a',(a'=a\/∃ x,a'=a.put (some sk) x)->∀ w',I w'->fF P ops Q oi I a' w' Ri)
  (Hj:∀ q a',(a'=a.put (some si) q\/∃ x,a'=(a.put (some si) q).put (some sk) x)->∀ w',I w'->Ri q w'->fF P ops Q oj I a' w' Rj)
  (Hk:∀ a',(a'=a\/(∃ q,a'=a.put (some si) q)\/∃ q v,a'=(a.put (some si) q).put (some sj) v)->∀ w',I w'->fF P ops Q ok I a' w' Rk)
  (ti:∀ q w' w'',Ri q w'->Below w'.heap.size w' w''->Ri q w'') (tj:∀ q w' w'',Rj q w'->Below w'.heap.size w' w''->Rj q w'') (tk:∀ q w' w'',Rk q w'->Below w'.heap.size w' w''->Rk q w'')
  (h:∀ q v x w',Below w.heap.size w w'->I w'->Ri q w'->Rj v w'->Rk x w' →
   wpAny P md ops Q fuel (((l.setIfInBounds i true).setIfInBounds j true).setIfInBounds k true) (((a.put (some si) q).put (some sj) v).put (some sk) x) w') :
  wpAny P md ops Q (fuel + 3) l a w:=by
 refine UK r1 ?_ ?_
 ·
  refine (Hi a (.inl rfl) w hI).at_ ei fun q w1 b1 i1 q1=>UK r2 ?_ ?_
  · rw [di];refine (Hj q _ (.inl rfl) w1 i1 q1).at_ ej fun v w2 b2 i2 v2=>eY r3 ?_;rw [dj];have b:=b1.trans (b2.mono b1.size);refine (Hk _ (.inr (.inr ⟨q,v,rfl⟩)) w2 i2).at_ ek fun x w3 b3 i3 x3=>?_;rw [dk];exact h q v x w3 (b.trans (b3.mono b.size)) i3 (ti _ _ _ (ti _ _ _ q1 b2) b3) (tj _ _ _ v2 b3) x3
  · rw [di];refine (Hk _ (.inr (.inl ⟨q,rfl⟩)) w1 i1).at_ ek fun x w2 b2 i2 x2=>eY r5 ?_;rw [dk];have b:=b1.trans (b2.mono b1.size);refine (Hj q _ (.inr ⟨x,rfl⟩) w2 i2 (ti _ _ _ q1 b2)).at_ ej fun v w3 b3 i3 v3=>?_;rw [dj,Ki _ (Ne.symm hjk),Array.setIfInBounds_comm _ _ (Ne.symm njk)];exact h q v x w3 (b.trans (b3.mono b.size)) i3 (ti _ _ _ (ti _ _ _ q1 b2) b3) v3 (tk _ _ _ x2 b3)
 · refine (Hk a (.inl rfl) w hI).at_ ek fun x w1 b1 i1 x1=>eY r4 ?_;rw [dk];refine (Hi _ (.inr ⟨x,rfl⟩) w1 i1).at_ ei fun q w2 b2 i2 q2=>?_;rw [di,Ki a (Ne.symm hik),Array.setIfInBounds_comm _ _ (Ne.symm nik)];refine eY r5 ?_;have b:=b1.trans (b2.mono b1.size);refine (Hj q _ (.inr ⟨x,rfl⟩) w2 i2 q2).at_ ej fun v w3 b3 i3 v3=>?_;rw [dj,Ki _ (Ne.symm hjk),Array.setIfInBounds_comm _ _ (Ne.symm njk)];exact h q v x w3 (b.trans (b3.mono b.size)) i3 (ti _ _ _ q2 b3) v3 (tk _ _ _ (tk _ _ _ x1 b2) b3)
theorem dB {o:Oper} {I:World->Prop} {a:Act} {w w':World} {R:Value->World->Prop} {v:Value} (hg:Region.wanted o (yielded ops a.tmps)=true) (hrun:(execOp a.eval o).run P w=.ok (.value v) w')
  (hb:Below w.heap.size w w') (hI:I w') (hR:R v w'):fF P ops Q o I a w R :=
 ⟨hg,fun K hK=>by unfold Oper.wp;rw [hrun];exact hK v w' hb hI hR⟩
theorem bC {o:Oper} {I:World->Prop} {a:Act} {w:World} {R:Value->World->Prop} {f:FuncId} {vs:Array Value} (hg:Region.wanted o (yielded ops a.tmps)=true) (hrun:(execOp a.eval o).run P w=.ok (.enter f vs) w)
  (hc:Calls P f vs w fun e w'=>∃ v,e=.returned v/\Below w.heap.size w w'/\I w'/\R v w'):fF P ops Q o I a w R :=
 ⟨hg,fun K hK=>by
  unfold Oper.wp;rw [hrun];show Calls P f vs w _
  exact hc.mono fun e w' ⟨v,he,hb,hI,hR⟩=>by subst he;exact hK v w' hb hI hR⟩
end
def aO (w:World) (C:Nat) (v:Value) (L:List Int):Prop:=∃ ao cap,v=.slice ao L.length cap/\L.length<=cap/\∀ j,j < L.length->∃ g off,ao=some ⟨g,off,none⟩/\g < w.heap.size/\C<=g/\w.cell? ⟨g,off + j,none⟩=some (.int .i64 (L.getD j 0))
theorem aO.nil (w:World) (C:Nat):aO w C (.slice none 0 0) []:=⟨none,0,rfl,Nat.le_refl _,fun j hj=>by simp at hj⟩
theorem aO.mono {w:World} {C D:Nat} {v:Value} {L:List Int} (h:aO w C v L) (hD:D<=C):aO w D v L:=by obtain ⟨ao,cap,e,hc,hf⟩:=h;exact ⟨ao,cap,e,hc,fun j hj=>by obtain ⟨g,off,e1,h1,h2,h3⟩:=hf j hj;exact ⟨g,off,e1,h1,Nat.le_trans hD h2,h3⟩⟩
theorem aO.below {w w':World} {C:Nat} {v:Value} {L:List Int} (h:aO w C v L) (hb:Below w.heap.size w w'):aO w' C v L:=by obtain ⟨ao,cap,e,hc,hf⟩:=h;exact ⟨ao,cap,e,hc,fun j hj=>by obtain ⟨g,off,e1,h1,h2,h3⟩:=hf j hj;exact ⟨g,off,e1,aL h1 hb.size,h2,aC h3 hb⟩⟩
theorem aO.but {S:Nat->Prop} {w w':World} {C:Nat} {v:Value} {L:List Int} (h:aO w C v L) (hb:But S w w') (hS:∀ b,C<=b->b < w.heap.size->¬ S b):aO w' C v L:=by obtain ⟨ao,cap,e,hc,hf⟩:=h;exact ⟨ao,cap,e,hc,fun j hj=>by obtain ⟨g,off,e1,h1,h2,h3⟩:=hf j hj;exact ⟨g,off,e1,aL h1 hb.size,h2,hb.cell (hS g h2 h1) h3⟩⟩
section
variable {P:Program} {ops:Array Oper} {Q:Exit->Act->World->Prop}
theorem kR (w:World) (t tx ty:TypeId) (D:Nat) (hD:D<=w.heap.size) (e:TypeId) (i:TypeInfo) (z:Value) (size bytes:Nat) (h1:P.underlying t=some (.slice e)) (h2:P.info? e=some i) (h3:i.zero=some z) (h4:i.size=size) (h5:i.bytes=bytes) (h6:z.cells.size=size) (h7:0 < size)
  (g:Nat) (hg:D<=g) (hh:w.heap[g]?=some (.cells #[] e (0,0))) (x:Value) (m:Nat) (news:List Value) (hs:Src P size tx x m news w) (b1:m<=maxLen) (b2:m * bytes<=140737488355328) :
  ∃ v' w',(Builtin.append_ #[t,tx] ty #[.slice (some ⟨g,0,none⟩) 0 0,x]).run P w=.ok v' w'/\Win (fun g=>D<=g) e size w' v' m news/\Below w.heap.size w w':=by
 subst h4;subst h5;have hn:=hs.newsLen;by_cases hm:m=0
 ·
  subst hm;have hnews:news=[]:=List.eq_nil_of_length_eq_zero (by omega);subst hnews;refine ⟨_,_,run_append_room_src (P:=P) w t tx ty e i h1 h2 g 0 0 0 x 0 [] hs (by omega) (fun j hj=>by simp at hj) (fun j hj=>by simp at hj),?_,?_⟩
  · exact ⟨by simp,.inr ⟨g,0,0,#[],rfl,hg,hh,Nat.le_refl _,by unfold maxLen;omega,by simp,by simp⟩⟩
  · exact Below.refl _ _
 ·
  have hsmall:m<=9223372036854775807:=by simp only [maxLen] at b1;omega
  have hr:=run_append_grow_src (P:=P) w t tx ty e i z h1 h2 h3 (some ⟨g,0,none⟩) 0 0 [] (run_firstCells_some w.drew i.size 0 ⟨g,0,none⟩ 0 0 [] (by simp) (fun j u h=>by simp at h)) x m news hs (by omega) (by omega) (growslice_fits (by omega) (by simpa using b2));have hge:=grownCap_ge w (0 + m) 0 e;have hcm:grownCap w (0 + m) 0 e<=maxLen:=grownCap_le_maxLen w (0 + m) 0 e (by omega);refine ⟨_,_,hr,⟨hn,.inr ⟨w.heap.size,0,_,_,by rw [Nat.zero_add],hD,heap_alloc_new w.drew _,by omega,hcm,?_,?_⟩⟩,((Below.refl _ _).drew).alloc (Nat.le_refl _) _⟩
  · simp only [Array.size_append,List.size_toArray,size_zeroCells,h6,hn,List.nil_append,<- Nat.add_mul];rw [Nat.zero_add];exact Nat.mul_le_mul_right _ (by omega)
  · simp only [Array.toList_append,List.nil_append,List.drop_zero];rw [<- hn];exact List.take_left
theorem tH {o:Oper} {I:World->Prop} {a:Act} {w w':World} {R:Value->World->Prop} {v u v':Value} (hg:Region.wanted o (yielded ops a.tmps)=true) (s x:Operand) (t tx:TypeId)
  (hop:o.op=Op.call { callee:=Callee.builtin Builtin.append,args:=#[s,x],argTypes:=#[t,tx] }) (hs:a.eval s=v) (hx:a.eval x=u) (hrun:(Builtin.append_ #[t,tx] o.type #[v,u]).run P w=.ok v' w')
  (hb:Below w.heap.size w w') (hI:I w') (hR:R v' w'):fF P ops Q o I a w R :=
 ⟨hg,fun K hK=>by
  unfold Oper.wp;simp [execOp,hop,resolve,invoke,builtin,hs,hx,hrun,Result.andThen]
  exact hK v' w' hb hI hR⟩
theorem kK {i':Nat} {o:Oper} {a:Act} {w:World} {K:Act->World->Prop} (ei:ops[i']?=some o) (hg:Region.wanted o (yielded ops a.tmps)=true) (s x:Operand) (t tx:TypeId)
  (hop:o.op=Op.call { callee:=Callee.builtin Builtin.append,args:=#[s,x],argTypes:=#[t,tx] })
  (S:Nat->Prop) (e:TypeId) (i:TypeInfo) (z:Value) (size bytes:Nat) (h1:P.underlying t=some (.slice e)) (h2:P.info? e=some i) (h3:i.zero=some z) (h4:i.size=size) (h5:i.bytes=bytes) (h6:z.cells.size=size) (h7:0 < size)
  (v:Value) (n:Nat) (xs:List Value) (hs:a.eval s=v) (hown:Win S e size w v n xs)
  (u:Value) (m:Nat) (news:List Value) (hx:a.eval x=u) (hsrc:Src P size tx u m news w)
  (b1:n + m<=maxLen) (b2:(n + m) * bytes<=140737488355328)
  (hK:∀ v' w',Win (fun g=>S g\/w.heap.size<=g) e size w' v' (n + m) (xs ++ news)->But S w w'->K (a.put o.dst v') w'):wpOp P ops Q i' K a w:=by
 unfold wpOp;rw [ei];simp only [];rw [if_pos hg];obtain ⟨v',w',hrun,r1,r2⟩:=rE (P:=P) w t tx o.type S e i z size bytes h1 h2 h3 h4 h5 h6 h7 v n xs hown u m news hsrc b1 b2;left;unfold Oper.wp;simp [execOp,hop,resolve,invoke,builtin,hs,hx,hrun,Result.andThen];exact hK v' w' r1 r2
end
theorem Src.ofInts {w:World} {C:Nat} {ao:Option Addr} {cap:Nat} {L:List Int} (h:∀ j,j < L.length->∃ g off,ao=some ⟨g,off,none⟩/\g < w.heap.size/\C<=g/\w.cell? ⟨g,off + j,none⟩=some (.int .i64 (L.getD j 0))) :
  Src Tryz.prog 1 25 (.slice ao L.length cap) L.length (L.map (Value.int .i64)) w:=by
 rcases Nat.eq_zero_or_pos L.length with h0 | hp
 ·
  have:=List.length_eq_zero_iff.1 h0;subst this
  cases ao with
  | none=>exact Src.ofNil w Tryz.underlying25 cap
  | some a=>exact Src.ofSlice w Tryz.underlying25 a 0 cap [] rfl (fun j u h=>by simp at h) (fun u h=>by simp at h)
 ·
  obtain ⟨g,off,rfl,_,_,_⟩:=h 0 hp;refine Src.ofSlice w Tryz.underlying25 ⟨g,off,none⟩ L.length cap _ (by simp) (fun j u hu=>?_) (fun u hu=>by obtain ⟨y,_,rfl⟩:=List.mem_map.1 hu;rfl);rw [List.getElem?_map] at hu;have hj:j < L.length:=by
   rcases Nat.lt_or_ge j L.length with h' | h'
   · exact h'
   · rw [List.getElem?_eq_none h'] at hu;cases hu
  obtain ⟨g',off',e,_,_,hc⟩:=h j hj;simp only [Option.some.injEq,Addr.mk.injEq,and_true] at e;obtain ⟨rfl,rfl⟩:=e;rw [aG hj] at hu;simp only [Option.map_some,Option.some.injEq] at hu;subst hu;rw [Addr.add_lit,hc,List.getD_eq_getElem?_getD,aG hj];rfl
theorem Win.ints {D:Nat} {w:World} {v:Value} {n:Nat} {L:List Int} (hn:L.length=n) (h:Win (fun g=>D<=g) 3 1 w v n (L.map (Value.int .i64))):aO w D v L:=by obtain ⟨ao,cap,e,hc,_,hf⟩:=h.form;refine ⟨ao,cap,by rw [hn];exact e,by omega,fun j hj=>?_⟩;obtain ⟨g,off,e1,hS,hg,hcl⟩:=hf j (by omega);refine ⟨g,off,e1,hg,hS,?_⟩;have:=hcl.1;rw [this,List.getElem?_map,aG hj,List.getD_eq_getElem?_getD,aG hj];rfl
theorem Src.ofWin {S:Nat->Prop} {w:World} {x:Value} {m:Nat} {news:List Value} (h:Win S 3 1 w x m news) (h1:∀ u ∈ news,u.oneCell'=true):Src Tryz.prog 1 25 x m news w:=by
 obtain ⟨ao,cap,rfl,_,hz,hf⟩:=h.form
 cases ao with
 | none =>
  obtain ⟨rfl,rfl⟩:=hz rfl;have:news=[]:=List.eq_nil_of_length_eq_zero (by have:=h.1;omega);subst this;exact Src.ofNil w Tryz.underlying25 0
 | some b =>
  refine Src.ofSlice w Tryz.underlying25 b m cap news h.1 (fun j u hu=>?_) h1;have hj:j < m * 1:=by have:=(aS.1 hu).1;rw [h.1] at this;exact this
  obtain ⟨g,off,e,_,_,hc⟩:=hf j hj;simp only [Option.some.injEq] at e;subst e;rw [Addr.add_lit,hc.1];exact hu
theorem Src.ofDrop {w:World} {C:Nat} {ao:Option Addr} {cap k:Nat} {L:List Int} (hk:k<=L.length) (hcap:L.length<=cap) (h:∀ j,j < L.length->∃ g off,ao=some ⟨g,off,none⟩/\g < w.heap.size/\C<=g/\w.cell? ⟨g,off + j,none⟩=some (.int .i64 (L.getD j 0))) :
  Src Tryz.prog 1 25 (.slice (if cap=k then ao else ao.map (·.add k)) (L.length - k) (cap - k)) (L.length - k) ((L.drop k).map (Value.int .i64)) w:=by
 by_cases h0:k=L.length
 ·
  subst h0;rw [Nat.sub_self,List.drop_length];generalize (if cap=L.length then ao else ao.map (·.add L.length))=A
  cases A with
  | none=>exact Src.ofNil w Tryz.underlying25 _
  | some b=>exact Src.ofSlice w Tryz.underlying25 b 0 _ [] rfl (fun j u h=>by simp at h) (fun u h=>by simp at h)
 ·
  have hl:k < L.length:=by omega
  rw [if_neg (by omega)];obtain ⟨g,off,rfl,_,_,_⟩:=h k hl;simp only [Option.map_some];rw [Addr.add_lit];refine Src.ofSlice w Tryz.underlying25 ⟨g,off + k,none⟩ (L.length - k) (cap - k) _ (by simp) (fun j u hu=>?_) (fun u hu=>by obtain ⟨y,_,rfl⟩:=List.mem_map.1 hu;rfl);have hj:k + j < L.length:=by have:=(aS.1 hu).1;simp at this;omega
  obtain ⟨g',off',e,_,_,hc⟩:=h (k + j) hj;simp only [Option.some.injEq,Addr.mk.injEq,and_true] at e;obtain ⟨rfl,rfl⟩:=e;rw [List.getElem?_map,List.getElem?_drop,aG hj] at hu;simp only [Option.map_some,Option.some.injEq] at hu;subst hu;rw [Addr.add_lit,show off + k + j=off + (k + j) by omega,hc,List.getD_eq_getElem?_getD,aG hj];rfl
end Go.Proofs.YthddifjhoniacaaGreat
