import Derived.Test.YthkdnehgamefiaaGreatHv
import Derived.Sort.Defs
namespace Go.Proofs.YthkdnehgamefiaaGreat
set_option linter.unusedVariables false
set_option maxRecDepth 1000000
open Go.RowKit Go.Sort
section
variable {P:Program} {ops:Array Oper} {Q:Exit->Act->World->Prop} {md:Region.Mode} {S:World->Prop} {z:Nat}
def aI (P:Program) (md:Region.Mode) (ops:Array Oper) (Q:Exit->Act->World->Prop) (S:World->Prop) (z:Nat):Nat->Array Bool->Act->World->Prop
 | 0,l,a,w=>Region.ready md ops l=[]/\Q .normal a w
 | n + 1,l,a,w=>(Region.ready md ops l=[]->Q .normal a w) ∧
   ∀ j ∈ Region.ready md ops l,wpOp P ops Q j (fun b v=>(j=z\/l.getD z true=true\/S v)/\aI P md ops Q S z n (l.setIfInBounds j true) b v) a w
theorem aI.any:∀ (n:Nat) (l:Array Bool) (a:Act) (w:World),aI P md ops Q S z n l a w->wpAny P md ops Q n l a w
 | 0,_,_,_,h=>h
 | n + 1,l,a,w,h=>⟨h.1,fun j hj=>wpOp_mono (fun b v hb=>aI.any n _ b v hb.2) (h.2 j hj)⟩
def blocked (md:Region.Mode) (ops:Array Oper) (D:List Nat) (i:Nat):Bool:=D.all (fun d=>waits md ops d i || D.any (fun e=>waits md ops d e))
theorem waits.held {e d:Nat} {l:Array Bool} (h:waits md ops d e=true) (he:l.getD e true=false):d ∉ Region.ready md ops l:=by
 intro hz;obtain ⟨-,o,ho,hall⟩:=mem_ready.1 hz;unfold waits at h;rw [ho] at h;obtain ⟨x,hx,hb⟩:=Array.any_eq_true'.1 h;rw [Bool.and_eq_true,beq_iff_eq] at hb;have h1:=hall x hx hb.1;rw [hb.2] at h1;rcases Nat.lt_or_ge e l.size with h2 | h2
 ·
  simp [h2] at he h1;rw [he] at h1
  cases h1
 · simp [Array.getElem?_eq_none h2] at he
theorem A4M {i:Nat} {l:Array Bool} (hi:i ∈ Region.ready md ops l):l.getD i true=false:=by
 obtain ⟨h0,-⟩:=mem_ready.1 hi;rcases Nat.lt_or_ge i l.size with h2 | h2
 · simp [h2] at h0 ⊢;exact h0
 · simp [Array.getElem?_eq_none h2] at h0
theorem blocked.off {i d:Nat} {D:List Nat} {l:Array Bool} (hD:blocked md ops D i=true) (hi:i ∈ Region.ready md ops l) (hl:∀ e ∈ D,l.getD e true=false) (hd:d ∈ D):d ∉ Region.ready md ops l:=by
 have h:=List.all_eq_true.1 hD d hd;rw [Bool.or_eq_true] at h;rcases h with h | h
 · exact waits.held h (A4M hi)
 · obtain ⟨e,he,h2⟩:=List.any_eq_true.1 h;exact waits.held h2 (hl e he)
theorem aI.takeD_first {i:Nat} {D:List Nat} {oi:Oper} {v:Value} (hi:ops[i]?=some oi) (hs:Region.noSelect ops=true) (hD:blocked md ops D i=true) (hzD:z ∈ D) (hQ:∀ c a w,Q (.panic c) (a.put oi.dst v) w->Q (.panic c) a w) :
  ∀ (n:Nat) (l:Array Bool) (a:Act) (w:World),(∀ d ∈ D,l.getD d true=false)->(∀ j oj,ops[j]?=some oj->j ≠ i->l.getD j true=false->(∀ e ∈ oj.after,Region.binds md e=true->e.on ≠ i)->oi.apart ops oj=true) →
   i ∈ Region.ready md ops l->YieldsIf P ops S oi v a->S w->aI P md ops Q S z n (l.setIfInBounds i true) (a.put oi.dst v) w->aI P md ops Q S z (n + 1) l a w
 | n,l,a,w,hlD,hf,hr,hy,hS,H=>by
  have hoff:∀ d ∈ D,d ∉ Region.ready md ops l:=fun d hd=>blocked.off hD hr hlD hd;have hiz:i ≠ z:=fun e=>hoff z hzD (e ▸ hr);refine ⟨fun h=>absurd hr (by rw [h];exact List.not_mem_nil),fun j hj=>?_⟩;rcases Nat.decEq j i with hji | hji
  ·
   have hj2:=ready_mono hj hji;have hjz:j ≠ z:=fun e=>hoff z hzD (e ▸ hj)
   cases n with
   | zero=>rw [H.1] at hj2;exact absurd hj2 List.not_mem_nil
   | succ n =>
    obtain ⟨h0,oj,ho,hall⟩:=mem_ready.1 hj;have hap:oi.apart ops oj=true:=hf j oj ho hji h0 fun e he hb heq=>by
     have h1:=hall e he hb;have h2:=(mem_ready.1 hr).1;rw [heq] at h1;rcases Nat.lt_or_ge i l.size with h3 | h3
     ·
      simp [h3] at h1 h2;rw [h2] at h1
      cases h1
     · simp [Array.getElem?_eq_none h3] at h1
    have h4:=wpOp_putIf ho hap (fun cs b=>Region.noSelect_spec hs i oi cs b hi) (fun cs b=>Region.noSelect_spec hs j oj cs b ho) hQ hy (H.2 j hj2);refine wpOp_mono (fun b u h5=>?_) h4;have hSu:S u:=by
     rcases h5.2.1 with h6 | h6 | h6
     · exact absurd h6 hjz
     · rw [getD_set_ne true hiz,hlD z hzD] at h6;cases h6
     · exact h6
    refine ⟨.inr (.inr hSu),aI.takeD_first hi hs hD hzD hQ n _ b u (fun d hd=>by rw [getD_set_ne true (show j ≠ d from fun e=>hoff d hd (by rw [<- e];exact hj))];exact hlD d hd) (fun k ok hk hki hun hno=>?_) (ready_mono hr (Ne.symm hji)) h5.1 hSu ?_⟩
    ·
     refine hf k ok hk hki ?_ hno;rcases Nat.decEq j k with e | e
     · rw [getD_set_ne true e] at hun;exact hun
     · subst e;exact h0
    · rw [Array.setIfInBounds_comm _ _ hji];exact h5.2.2
  · subst hji;exact hy.wpOp hi hS ⟨.inr (.inr hS),H⟩
theorem aI.takeD (i:Nat) (D:List Nat) {oi:Oper} {v:Value} {n:Nat} {l:Array Bool} {a:Act} {w:World} (hi:ops[i]?=some oi) (hy:YieldsIf P ops S oi v a) (hS:S w)
  (h:aI P md ops Q S z n (l.setIfInBounds i true) (a.put oi.dst v) w) (hD:blocked md ops D i=true:=by kernel_rfl) (hzD:z ∈ D:=by decide) (hlD:D.all (fun d=>l.getD d true == false)=true:=by kernel_rfl) (hs:Region.noSelect ops=true:=by kernel_rfl) (hf:Region.free md ops l i=true:=by kernel_rfl) (hr:(Region.ready md ops l).contains i=true:=by kernel_rfl)
  (hQ:∀ c a w,Q (.panic c) (a.put oi.dst v) w->Q (.panic c) a w:=by exact fun _ _ _ h=>h):aI P md ops Q S z (n + 1) l a w :=
 aI.takeD_first hi hs hD hzD hQ n l a w (fun d hd=>beq_iff_eq.1 (List.all_eq_true.1 hlD d hd)) (Region.free_spec hi hf) (by simpa using hr) hy hS h
theorem aI.take (i:Nat) {oi:Oper} {v:Value} {n:Nat} {l:Array Bool} {a:Act} {w:World} (hi:ops[i]?=some oi) (hy:YieldsIf P ops S oi v a) (hS:S w)
  (h:aI P md ops Q S z n (l.setIfInBounds i true) (a.put oi.dst v) w) (hD:blocked md ops [z] i=true:=by kernel_rfl) (hlD:[z].all (fun d=>l.getD d true == false)=true:=by kernel_rfl) (hs:Region.noSelect ops=true:=by kernel_rfl) (hf:Region.free md ops l i=true:=by kernel_rfl) (hr:(Region.ready md ops l).contains i=true:=by kernel_rfl)
  (hQ:∀ c a w,Q (.panic c) (a.put oi.dst v) w->Q (.panic c) a w:=by exact fun _ _ _ h=>h):aI P md ops Q S z (n + 1) l a w :=
 aI.takeD i [z] hi hy hS h hD (List.mem_singleton.2 rfl) hlD hs hf hr hQ
theorem A0F (l:Array Bool) (j:Nat):(l.setIfInBounds j true).getD j true=true:=by
 by_cases h:j < l.size
 · simp [h]
 · simp [h]
theorem aI.pure_first {i:Nat} {oi:Oper} {v:Value} (hi:ops[i]?=some oi) (hs:Region.noSelect ops=true) (hiz:i ≠ z) (hQ:∀ c a w,Q (.panic c) (a.put oi.dst v) w->Q (.panic c) a w) :
  ∀ (n:Nat) (l:Array Bool) (a:Act) (w:World),(∀ j oj,ops[j]?=some oj->j ≠ i->l.getD j true=false->(∀ e ∈ oj.after,Region.binds md e=true->e.on ≠ i)->oi.apart ops oj=true) →
   i ∈ Region.ready md ops l->YieldsIf P ops (fun _=>True) oi v a->(l.getD z true=true\/S w)->aI P md ops Q S z n (l.setIfInBounds i true) (a.put oi.dst v) w->aI P md ops Q S z (n + 1) l a w
 | n,l,a,w,hf,hr,hy,hS,H=>by
  refine ⟨fun h=>absurd hr (by rw [h];exact List.not_mem_nil),fun j hj=>?_⟩;rcases Nat.decEq j i with hji | hji
  ·
   have hj2:=ready_mono hj hji
   cases n with
   | zero=>rw [H.1] at hj2;exact absurd hj2 List.not_mem_nil
   | succ n =>
    obtain ⟨h0,oj,ho,hall⟩:=mem_ready.1 hj;have hap:oi.apart ops oj=true:=hf j oj ho hji h0 fun e he hb heq=>by
     have h1:=hall e he hb;have h2:=(mem_ready.1 hr).1;rw [heq] at h1;rcases Nat.lt_or_ge i l.size with h3 | h3
     ·
      simp [h3] at h1 h2;rw [h2] at h1
      cases h1
     · simp [Array.getElem?_eq_none h3] at h1
    have h4:=wpOp_putIf ho hap (fun cs b=>Region.noSelect_spec hs i oi cs b hi) (fun cs b=>Region.noSelect_spec hs j oj cs b ho) hQ hy (H.2 j hj2);refine wpOp_mono (fun b u h5=>?_) h4;have h6:j=z\/l.getD z true=true\/S u:=(by have h7:=h5.2.1;rw [getD_set_ne true hiz] at h7;exact h7);refine ⟨h6,aI.pure_first hi hs hiz hQ n _ b u (fun k ok hk hki hun hno=>?_) (ready_mono hr (Ne.symm hji)) h5.1 ?_ ?_⟩
    ·
     refine hf k ok hk hki ?_ hno;rcases Nat.decEq j k with e | e
     · rw [getD_set_ne true e] at hun;exact hun
     · subst e;exact h0
    ·
     rcases Nat.decEq j z with e | e
     ·
      rw [getD_set_ne true e];rcases h6 with h7 | h7
      · exact absurd h7 e
      · exact h7
     · subst e;exact .inl (A0F l j)
    · rw [Array.setIfInBounds_comm _ _ hji];exact h5.2.2
  · subst hji;exact hy.wpOp hi trivial ⟨.inr hS,H⟩
theorem aI.pure (i:Nat) {oi:Oper} {v:Value} {n:Nat} {l:Array Bool} {a:Act} {w:World} (hi:ops[i]?=some oi) (hy:YieldsIf P ops (fun _=>True) oi v a) (hS:S w)
  (h:aI P md ops Q S z n (l.setIfInBounds i true) (a.put oi.dst v) w) (hiz:i ≠ z:=by decide) (hs:Region.noSelect ops=true:=by kernel_rfl) (hf:Region.free md ops l i=true:=by kernel_rfl) (hr:(Region.ready md ops l).contains i=true:=by kernel_rfl)
  (hQ:∀ c a w,Q (.panic c) (a.put oi.dst v) w->Q (.panic c) a w:=by exact fun _ _ _ h=>h):aI P md ops Q S z (n + 1) l a w :=
 aI.pure_first hi hs hiz hQ n l a w (Region.free_spec hi hf) (by simpa using hr) hy (.inr hS) h
theorem aI.one {i:Nat} {n:Nat} {l:Array Bool} {a:Act} {w:World} (hr:Region.ready md ops l=[i]) (h:wpOp P ops Q i (fun b v=>(i=z\/l.getD z true=true\/S v)/\aI P md ops Q S z n (l.setIfInBounds i true) b v) a w):aI P md ops Q S z (n + 1) l a w :=
 ⟨fun h0=>absurd (hr.symm.trans h0) (by simp),by rw [hr];intro j hj;obtain rfl:=List.mem_singleton.1 hj;exact h⟩
theorem aI.done {l:Array Bool} {a:Act} {w:World} (hr:Region.ready md ops l=[]) (h:Q .normal a w):∀ n,aI P md ops Q S z n l a w
 | 0=>⟨hr,h⟩
 | n + 1=>⟨fun _=>h,by rw [hr];simp⟩
end
theorem bX {P:Program} {Q:Exit->Act->World->Prop} (S:World->Prop) (z:Nat) {id:Nat} {ops:Array Oper} {a:Act} {w:World} (hm:P.follows .mixedOrders=true)
  (h:aI P .any ops Q S z ops.size (Array.replicate ops.size false) a w.drew):(Code.region id ops true).wp P Q a w :=
 wp_region_any hm (aI.any _ _ _ _ h)
theorem tC {P:Program} {ops:Array Oper} {Q:Exit->Act->World->Prop} {md:Region.Mode} {S:World->Prop} {z:Nat} (i:Nat) {oi:Oper} {v:Value} {n:Nat} {l:Array Bool} {a:Act} {w:World} (hi:ops[i]?=some oi) (hS:S w) (h:aI P md ops Q S z n (l.setIfInBounds i true) (a.put oi.dst v) w) (hw:Region.wanted oi (yielded ops a.tmps)=true:=by rfl) (hv:∀ w,(execOp a.eval oi).run P w=.ok (.value v) w:=by intro w;go_simp;try with_reducible rfl) (hiz:i ≠ z:=by decide) (hs:Region.noSelect ops=true:=by kernel_rfl) (hf:Region.free md ops l i=true:=by kernel_rfl) (hr:(Region.ready md ops l).contains i=true:=by kernel_rfl) (hQ:∀ c a w,Q (.panic c) (a.put oi.dst v) w->Q (.panic c) a w:=by exact fun _ _ _ h=>h):aI P md ops Q S z (n + 1) l a w :=
 aI.pure i hi (.inl ⟨hw,fun w _=>hv w⟩) hS h hiz hs hf hr hQ
theorem tD {P:Program} {ops:Array Oper} {Q:Exit->Act->World->Prop} {md:Region.Mode} {S:World->Prop} {z:Nat} (i:Nat) (D:List Nat) {oi:Oper} {v:Value} {n:Nat} {l:Array Bool} {a:Act} {w:World} (hi:ops[i]?=some oi) (hS:S w) (h:aI P md ops Q S z n (l.setIfInBounds i true) (a.put oi.dst v) w) (hw:Region.wanted oi (yielded ops a.tmps)=true:=by rfl) (hv:∀ w,S w->(execOp a.eval oi).run P w=.ok (.value v) w:=by intro w h;revert h;(try simp only [and_imp]);intros;go_simp;try with_reducible rfl) (hD:blocked md ops D i=true:=by kernel_rfl) (hzD:z ∈ D:=by decide) (hlD:D.all (fun d=>l.getD d true == false)=true:=by kernel_rfl) (hs:Region.noSelect ops=true:=by kernel_rfl) (hf:Region.free md ops l i=true:=by kernel_rfl) (hr:(Region.ready md ops l).contains i=true:=by kernel_rfl) (hQ:∀ c a w,Q (.panic c) (a.put oi.dst v) w->Q (.panic c) a w:=by exact fun _ _ _ h=>h):aI P md ops Q S z (n + 1) l a w :=
 aI.takeD i D hi (.inl ⟨hw,hv⟩) hS h hD hzD hlD hs hf hr hQ
theorem tE {P:Program} {ops:Array Oper} {Q:Exit->Act->World->Prop} {md:Region.Mode} {S:World->Prop} {z:Nat} (i:Nat) {oi:Oper} {v:Value} {n:Nat} {l:Array Bool} {a:Act} {w:World} (hi:ops[i]?=some oi) (hS:S w) (h:aI P md ops Q S z n (l.setIfInBounds i true) (a.put oi.dst v) w) (hw:Region.wanted oi (yielded ops a.tmps)=true:=by rfl) (hv:∀ w,S w->(execOp a.eval oi).run P w=.ok (.value v) w:=by intro w h;revert h;(try simp only [and_imp]);intros;go_simp;try with_reducible rfl) (hD:blocked md ops [z] i=true:=by kernel_rfl) (hlD:[z].all (fun d=>l.getD d true == false)=true:=by kernel_rfl) (hs:Region.noSelect ops=true:=by kernel_rfl) (hf:Region.free md ops l i=true:=by kernel_rfl) (hr:(Region.ready md ops l).contains i=true:=by kernel_rfl) (hQ:∀ c a w,Q (.panic c) (a.put oi.dst v) w->Q (.panic c) a w:=by exact fun _ _ _ h=>h):aI P md ops Q S z (n + 1) l a w :=
 aI.take i hi (.inl ⟨hw,hv⟩) hS h hD hlD hs hf hr hQ
end Go.Proofs.YthkdnehgamefiaaGreat
