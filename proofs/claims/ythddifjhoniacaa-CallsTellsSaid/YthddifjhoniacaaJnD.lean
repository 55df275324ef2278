import Derived.Test.YthddifjhoniacaaJx
namespace Go.Proofs.Ythddifjhoniacaa
set_option linter.unusedVariables false
open Go.RowKit Go.Sort
theorem ruleN_bd (m:Md) (s:ByteArray):ruleN m s=-1\/(0<=ruleN m s/\ruleN m s < m.ru.length):=by
 have h:=idxF_bd (fun r:ByteArray × Ex=>r.1.toList == s.toList) 0 m.ru;rcases h with h | h
 · exact .inl h
 · refine .inr ⟨by have:=h.1;exact this,?_⟩;have h2:ruleN m s < ((0:Nat):Int) + m.ru.length:=h.2;omega
theorem resF_bd (l:List Md) (mod name:ByteArray):∀ (L:List Int) (m r:Int),(∀ k ∈ L,0<=k)->resF l mod name L=(m,r,true)->∃ (mm:Nat) (md:Md),m=(mm:Int)/\l[mm]?=some md/\r=ruleN md name/\0<=r/\r < md.ru.length
 | [],m,r,_,h=>by unfold resF at h;simp at h
 | k :: L,m,r,hL,h=>by
  have h0:=hL k (List.mem_cons_self ..);unfold resF at h
  cases hk:l[k.toNat]? with
  | none=>rw [hk] at h;simp at h
  | some md =>
   rw [hk] at h;simp only [] at h;split at h
   · exact resF_bd l mod name L m r (fun x hx=>hL x (List.mem_cons_of_mem _ hx)) h
   ·
    split at h
    ·
     rename_i h1;simp only [Prod.mk.injEq,and_true] at h;obtain ⟨rfl,rfl⟩:=h;refine ⟨k.toNat,md,by omega,hk,rfl,h1,?_⟩;rcases ruleN_bd md name with h2 | h2
     · omega
     · exact h2.2
    · exact resF_bd l mod name L m r (fun x hx=>hL x (List.mem_cons_of_mem _ hx)) h
theorem resO_bd {l:List Md} {i m r:Int} {s:ByteArray} (h:resO l i s=(m,r,true)):∃ (mm:Nat) (md:Md),m=(mm:Int)/\l[mm]?=some md/\r=ruleN md (splitR s)/\0<=r/\r < md.ru.length:=by
 unfold resO at h;split at h
 ·
  rename_i hc;split at h
  · simp at h
  ·
   rename_i md _;refine resF_bd l _ _ _ m r (fun k hk=>?_) h;unfold seenL at hk;rcases List.mem_cons.1 hk with rfl | hk
   · exact hc.2.1
   · exact of_decide_eq_true (List.mem_filter.1 hk).2
 · simp at h
def JPo (w0:World) (g:Nat) (rows:Rw) (lv:Value) (st:Int) (r:Pt) (w:World) (c:Nat->Nat) (e:Ending) (w':World):Prop :=
 ∃ c',e=.returned (.int .i64 (r.2.2:Int))/\Jn w0 w' g c' rows lv st r.1 r.2.1/\But (fun b=>b=g\/c b=2) w w'/\Agree w c c'
def putG (ML:List Md) (F:List Nat) (mod:Nat) (ru:Int) (P:Ex->List Nj->Pt) (e:Ex) (N:List Nj):Pt:=if 160<=N.length then (N,some (3,(mod:Int),ru),0) else match toO ML F mod e with
  | none=>(N,some (5,(mod:Int),ru),0)
  | some tt=>endK N.length (kidsF P e.kids (N ++ [nodeJ e [] tt mod ru]) [])
theorem putN_succ (ML:List Md) (F:List Nat) (mod:Nat) (ru:Int) (d:Nat) (e:Ex) (N:List Nj):putN ML F mod ru (d + 1) e N=putG ML F mod ru (putN ML F mod ru d) e N:=rfl
def KQ (P:Ex->List Nj->Pt) (K:List Ex) (R:Pk) (k:Nat) (N:List Nj) (ks:List Nat):Option Ft3->Prop
 | none=>R=kidsF P (K.drop k) N ks
 | some f=>R=(N,some f,ks)
theorem KQ.step {P:Ex->List Nj->Pt} {K:List Ex} {R:Pk} {k:Nat} {N N1:List Nj} {ks:List Nat} {y:Ex} {F1:Option Ft3} {n1:Nat} (h:KQ P K R k N ks none) (hy:K[k]?=some y) (hp:P y N=(N1,F1,n1)):KQ P K R (k + 1) N1 (ks ++ [n1]) F1:=by
 have h:R=kidsF P (K.drop k) N ks:=h;obtain ⟨h1,h2⟩:=aS.1 hy;rw [List.drop_eq_getElem_cons h1,h2] at h;unfold kidsF at h;rw [hp] at h
 cases F1 with
 | none=>exact h
 | some f=>exact h
theorem KQ.done {P:Ex->List Nj->Pt} {K:List Ex} {R:Pk} {k:Nat} {N:List Nj} {ks:List Nat} (h:KQ P K R k N ks none) (hk:K.length<=k):R=(N,none,ks):=by have h:R=kidsF P (K.drop k) N ks:=h;rw [List.drop_eq_nil_of_le hk] at h;exact h
section
variable {w0 w w':World} {g:Nat} {c:Nat->Nat} {rows:Rw} {v:Nat->Value} {lv:Value} {st:Int} {F:Option Ft3} {N:List Nj} {S:Nat->Prop}
theorem Wk.other (h:Wk w0 w g c rows v lv st F) (hb:But S w w') (hS:∀ b,b < w.heap.size->S b->c b=0/\w0.heap.size<=b):Wk w0 w' g c rows v lv st F:=by
 refine ⟨h.bl.trans ((hb.mono (T:=fun b=>w0.heap.size<=b) fun b hlt hs=>(hS b hlt hs).2).below h.bl.size fun b hs=>hs),h.gd,h.cg,fun b hc=>⟨(h.dom b hc).1,aL (h.dom b hc).2 hb.size⟩,h.own.but hb fun hs=>?_,fun i h1 h5=>(h.win i h1 h5).keep hb fun b hlt hc hs=>?_,h.nz⟩
 · have:=(hS g h.own.lt hs).1;rw [h.cg] at this;omega
 · have:=(hS b hlt hs).1;omega
theorem Jn.other (h:Jn w0 w g c rows lv st N F) (hb:But S w w') (hS:∀ b,b < w.heap.size->S b->c b=0/\w0.heap.size<=b):Jn w0 w' g c rows lv st N F:=by obtain ⟨v,Z,h1,h2,h3⟩:=h;refine ⟨v,Z,h1.other hb hS,h2,fun z hz=>(h3 z hz).but hb fun b hlt hc hs=>?_⟩;have:=(hS b hlt hs).1;omega
theorem Wk.grown2 {wq w3:World} {Z:List Zj} (h:Wk w0 w g c (upd rows 2 (Z.length,Z.flatMap njrow)) v lv st F) (hq:Below w.heap.size w wq) {z:Zj} {v':Value} {zn:Nat} (hzn:Z.length=zn)
  (hw:Win (fun b=>c b=2\/wq.heap.size<=b) 44 10 w3 v' (zn + 1) (Z.flatMap njrow ++ njrow z)) (hb:But (fun b=>c b=2) wq w3) :
  Wk w0 (w3.setCell ⟨g,2,none⟩ v') g (newC c wq w3 2) (upd rows 2 ((Z ++ [z]).length,(Z ++ [z]).flatMap njrow)) (upd v 2 v') lv st F/\But (fun b=>b=g\/c b=2) w (w3.setCell ⟨g,2,none⟩ v')/\Agree w c (newC c wq w3 2):=by
 have hG:=h.grown hq (i:=2) (by omega) (by omega) (v':=v') (m:=1) (news:=njrow z) (by rw [upd_same];show Win _ _ _ _ _ (Z.length + 1) _;rw [hzn];exact hw) hb;refine ⟨hG.1.rows_eq fun i h1 h5=>?_,hG.2.1,hG.2.2⟩;by_cases e:i=2
 · subst e;rw [upd_same,upd_same,upd_same,List.length_append,List.flatMap_append];simp
 · rw [upd_far _ _ e,upd_far _ _ e,upd_far _ _ e]
theorem kids_keep {c1:Nat->Nat} {Z:List Zj} (h:∀ z ∈ Z,HasKz w (fun b=>c b=7) z) (hb:But S w w') (hS:∀ b,b < w.heap.size->c b=7->¬ S b) (ha:Agree w c c1):∀ z ∈ Z,HasKz w' (fun b=>c1 b=7) z:=fun z hz=>by refine ⟨fun k x hx=>?_,(h z hz).2⟩;obtain ⟨b,off,e,hlt,hr,cc⟩:=(h z hz).1 k x hx;exact ⟨b,off,e,aL hlt hb.size,(ha b hlt).trans hr,hb.cell (hS b hlt hr) cc⟩
theorem jn_close {Z:List Zj} {SK:Nat->Prop} {n b off cap sc:Nat} {so:Option Addr} {ks:List Nat} (h:Wk w0 w g c (upd rows 2 (Z.length,Z.flatMap njrow)) v lv st F) (hK:∀ z ∈ Z,HasKz w (fun b=>c b=7) z)
  (hv:v 2=.slice (some ⟨b,off,none⟩) Z.length cap) (hn:n < Z.length) (hs:Win SK 3 1 w (.slice so ks.length sc) ks.length (knrow ks)) (hSK:∀ b,SK b->c b=0/\w0.heap.size<=b/\b < w.heap.size) :
  ∃ c',Jn w0 (w.setCell ⟨b,off + (n * 10 + 6),none⟩ (.slice so ks.length sc)) g c' rows lv st (setK (Z.map (·.n)) n ks) F/\But (fun x=>c x=2) w (w.setCell ⟨b,off + (n * 10 + 6),none⟩ (.slice so ks.length sc))/\∀ b,¬ SK b->c' b=c b:=by
 have hS:=h.setrow (i:=2) (b:=b) (off:=off) (cap:=cap) (j:=n * 10 + 6) (by omega) (by omega) (by rw [upd_same];exact hv) (.slice so ks.length sc) (by rw [upd_same];show n * 10 + 6 < Z.length * 10;omega);obtain ⟨h1,hb⟩:=hS;have hdec:∀ b,SK b\/¬ SK b:=fun b=>Classical.em _
 obtain ⟨c',hc1,hc2⟩:∃ c':Nat->Nat,(∀ b,SK b->c' b=7)/\∀ b,¬ SK b->c' b=c b :=
  ⟨fun b=>@ite _ (SK b) (Classical.propDecidable _) 7 (c b),fun b hb=>if_pos hb,fun b hb=>if_neg hb⟩
 have hg:¬ SK g:=fun e=>by have:=(hSK g e).1;rw [h.cg] at this;omega
 refine ⟨c',⟨v,setZ Z n ks so sc,?_,setZ_map Z n ks so sc,fun z hz=>?_⟩,hb,hc2⟩
 ·
  refine ((h1.rows_eq (rows':=upd rows 2 ((setZ Z n ks so sc).length,(setZ Z n ks so sc).flatMap njrow)) fun i k1 k5=>?_).recol (c':=c') ((hc2 g hg).trans h.cg) (fun x hx=>?_) (fun i k1 k5 x hx=>?_))
  ·
   by_cases e:i=2
   · subst e;rw [upd_same,upd_same,upd_same,setZ_len,setZ_row Z n ks so sc hn]
   · rw [upd_far _ _ e,upd_far _ _ e,upd_far _ _ e]
  ·
   rcases hdec x with hx2 | hx2
   · have:=hSK x hx2;exact ⟨this.2.1,aL this.2.2 hb.size⟩
   · rw [hc2 x hx2] at hx;exact ⟨(h.dom x hx).1,aL (h.dom x hx).2 hb.size⟩
  · rw [hc2 x (fun e=>by have:=(hSK x e).1;omega)];exact hx
 ·
  rcases setZ_mem hz with hz | ⟨e1,e2,e3⟩
  ·
   refine ((hK z hz).but hb fun x _ hx hx2=>?_).mono fun x _ hx=>?_
   · have hx2:c x=2:=hx2;omega
   · rw [hc2 x (fun e=>by have:=(hSK x e).1;omega)];exact hx
  · obtain ⟨ao,cap,q1,q2,-⟩:=hs.form;injection q1 with q3 q4 q5;refine ⟨?_,by rw [e2,e3];omega⟩;rw [e1,e2];refine ((hasKn_of hs).but hb fun x _ hx hx2=>?_).mono fun x _ hx=>hc1 x hx;have:=(hSK x hx).1;have hx2:c x=2:=hx2;omega
end
end Go.Proofs.Ythddifjhoniacaa
