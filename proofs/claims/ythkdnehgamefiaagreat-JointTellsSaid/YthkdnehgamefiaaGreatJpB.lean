import Derived.Test.YthkdnehgamefiaaGreatJx
namespace Go.Proofs.YthkdnehgamefiaaGreat
set_option linter.unusedVariables false
open Go.RowKit Go.Sort
def pkcells (lv:Value) (v:Nat->Value) (st:Int) (F:Option Ft3):List Value:=[lv,v 5,v 1,v 2,v 3,v 4,.int .i64 st,.int .i64 (e3 F),.int .i64 0,.int .i64 (m3 F),.int .i64 (r3 F)]
def peJ:Nat->Nat
 | 5=>1
 | i=>i + 1
structure Wp (w0 w:World) (g:Nat) (c:Nat->Nat) (rows:Rw) (v:Nat->Value) (lv:Value) (st:Int) (F:Option Ft3):Prop where
 bl:Below w0.heap.size w0 w
 gd:w0.heap.size<=g
 cg:c g=9
 dom:∀ b,c b ≠ 0->w0.heap.size<=b/\b < w.heap.size
 own:Own w g 68 (pkcells lv v st F)
 win:∀ i,1<=i->i<=5->Win (fun b=>c b=i) (tyJ i) (szJ i) w (v i) (rows i).1 (rows i).2
 nz:∀ f,F=some f->f.1 ≠ 0
section
variable {w0 w w' w3 wq:World} {g:Nat} {c c':Nat->Nat} {rows rows':Rw} {v:Nat->Value} {lv:Value} {st:Int} {F:Option Ft3}
theorem Wp.below (h:Wp w0 w g c rows v lv st F) (hb:Below w.heap.size w w'):Wp w0 w' g c rows v lv st F :=
 ⟨h.bl.trans (hb.mono h.bl.size),h.gd,h.cg,fun b hc=>⟨(h.dom b hc).1,aL (h.dom b hc).2 hb.size⟩,h.own.under hb h.own.lt,fun i h1 h2=>(h.win i h1 h2).below hb,h.nz⟩
theorem Wp.rows_eq (h:Wp w0 w g c rows v lv st F) (he:∀ i,1<=i->i<=5->rows i=rows' i):Wp w0 w g c rows' v lv st F :=
 ⟨h.bl,h.gd,h.cg,h.dom,h.own,fun i h1 h2=>by rw [<- he i h1 h2];exact h.win i h1 h2,h.nz⟩
theorem Wp.grown (h:Wp w0 w g c rows v lv st F) (hq:Below w.heap.size w wq) {i:Nat} (h1:1<=i) (h5:i<=5) {v':Value} {m:Nat} {news:List Value}
  (hw:Win (fun b=>c b=i\/wq.heap.size<=b) (tyJ i) (szJ i) w3 v' ((rows i).1 + m) ((rows i).2 ++ news)) (hb:But (fun b=>c b=i) wq w3) :
  Wp w0 (w3.setCell ⟨g,peJ i,none⟩ v') g (Qj c wq w3 i) (upd rows i ((rows i).1 + m,(rows i).2 ++ news)) (upd v i v') lv st F/\But (fun b=>b=g\/c b=i) w (w3.setCell ⟨g,peJ i,none⟩ v')/\Agree w c (Qj c wq w3 i):=by
 have hq':=h.below hq;have hi9:i ≠ 9:=by omega
 have hg:¬ c g=i:=by rw [h.cg];exact fun e=>hi9 e.symm
 have hlt:=hq'.own.lt;have hne:∀ b,wq.heap.size<=b->c b=0:=fun b hb=>by
  by_cases e:c b=0
  · exact e
  · have:=(hq'.dom b e).2;omega
 have hold:∀ b,b < wq.heap.size->Qj c wq w3 i b=c b:=fun b hb=>if_neg (by omega)
 have hbut:But (fun b=>b=g\/c b=i) wq (w3.setCell ⟨g,peJ i,none⟩ v') :=
  (hb.mono (T:=fun b=>b=g\/c b=i) fun b _ h=>.inr h).setCell (p:=⟨g,peJ i,none⟩) (fun _=>.inl rfl) _
 refine ⟨⟨?_,h.gd,?_,?_,?_,?_,h.nz⟩,(But.of_below hq).trans hbut (fun b _ hb=>hb),fun b hb=>hold b (aL hb hq.size)⟩
 ·
  refine (hq'.bl).trans (hbut.below hq'.bl.size ?_);rintro b (rfl | hb)
  · exact h.gd
  · exact (h.dom b (by omega)).1
 · rw [hold g hlt];exact h.cg
 ·
  intro b hb';have hs:=hb.size;have hs2:=hq'.bl.size;rw [show (w3.setCell ⟨g,peJ i,none⟩ v').heap.size=w3.heap.size by simp [World.setCell]];unfold Qj at hb';split at hb'
  · omega
  · have:=hq'.dom b hb';omega
 ·
  have ho:=(hq'.own.but hb hg).put (peJ i) v';obtain rfl | rfl | rfl | rfl | rfl:i=1\/i=2\/i=3\/i=4\/i=5:=by omega
  all_goals exact ho
 ·
  intro k k1 k5;by_cases e:k=i
  ·
   subst e;rw [upd_same,upd_same];refine (hw.mono (T:=fun b=>Qj c wq w3 k b=k) fun b hb' hc=>?_).keep (T:=fun b=>b=g) (But.put w3 g (peJ k) v') (fun b _ hb'=>?_)
   ·
    rcases hc with hc | hc
    ·
     by_cases hlt2:b < wq.heap.size
     · rw [hold b hlt2];exact hc
     · exact if_pos ⟨by omega,hb'⟩
    · exact if_pos ⟨hc,hb'⟩
   · rintro rfl;rw [hold b hlt,h.cg] at hb';omega
  ·
   rw [iB _ _ e,iB _ _ e];have hk:=hq'.win k k1 k5;refine ((hk.keep hb fun b _ hbk hbi=>e (hbk.symm.trans hbi)).mono (T:=fun b=>Qj c wq w3 i b=k) fun b hb' hc=>?_).keep (T:=fun b=>b=g) (But.put w3 g (peJ i) v') (fun b _ hb'=>?_)
   ·
    by_cases hlt2:b < wq.heap.size
    · rw [hold b hlt2];exact hc
    · rw [hne b (by omega)] at hc;omega
   · rintro rfl;rw [hold b hlt,h.cg] at hb';omega
theorem Wp.turn {st':Int} {F':Option Ft3} (h:Wp w0 w g c rows v lv st F) (hb:But (fun b=>b=g) w w') (ho:Own w' g 68 (pkcells lv v st' F')) (hn:∀ f,F'=some f->f.1 ≠ 0):Wp w0 w' g c rows v lv st' F':=by refine ⟨h.bl.trans (hb.below h.bl.size fun b e=>e ▸ h.gd),h.gd,h.cg,fun b hc=>⟨(h.dom b hc).1,aL (h.dom b hc).2 hb.size⟩,ho,fun i h1 h2=>(h.win i h1 h2).keep hb fun b _ hc e=>?_,hn⟩;have e:b=g:=e;rw [e,h.cg] at hc;omega
theorem Wp.fault (h:Wp w0 w g c rows v lv st none) (f:Ft3) (hf:f.1 ≠ 0) :
  Wp w0 ((((w.setCell ⟨g,7,none⟩ (.int .i64 f.1)).setCell ⟨g,8,none⟩ (.int .i64 0)).setCell ⟨g,9,none⟩ (.int .i64 f.2.1)).setCell ⟨g,10,none⟩ (.int .i64 f.2.2)) g c rows v lv st (some f) ∧
  But (fun b=>b=g) w ((((w.setCell ⟨g,7,none⟩ (.int .i64 f.1)).setCell ⟨g,8,none⟩ (.int .i64 0)).setCell ⟨g,9,none⟩ (.int .i64 f.2.1)).setCell ⟨g,10,none⟩ (.int .i64 f.2.2)):=by
 have hb:But (fun b=>b=g) w ((((w.setCell ⟨g,7,none⟩ (.int .i64 f.1)).setCell ⟨g,8,none⟩ (.int .i64 0)).setCell ⟨g,9,none⟩ (.int .i64 f.2.1)).setCell ⟨g,10,none⟩ (.int .i64 f.2.2)) :=
  ((((But.refl (fun j=>j=g) w).setCell (p:=⟨g,7,none⟩) (fun _=>rfl) _).setCell (p:=⟨g,8,none⟩) (fun _=>rfl) _).setCell (p:=⟨g,9,none⟩) (fun _=>rfl) _).setCell (p:=⟨g,10,none⟩) (fun _=>rfl) _
 exact ⟨h.turn hb ((((h.own.put 7 _).put 8 _).put 9 _).put 10 _) (fun f' e=>by cases e;exact hf),hb⟩
theorem Wp.setrow (h:Wp w0 w g c rows v lv st F) {i b off cap j:Nat} (h1:1<=i) (h5:i<=5) (hv:v i=.slice (some ⟨b,off,none⟩) (rows i).1 cap) (u:Value) (hj:j < (rows i).1 * szJ i) :
  Wp w0 (w.setCell ⟨b,off + j,none⟩ u) g c (upd rows i ((rows i).1,(rows i).2.set j u)) v lv st F/\But (fun x=>c x=i) w (w.setCell ⟨b,off + j,none⟩ u):=by
 have hw:=h.win i h1 h5;rw [hv] at hw;obtain ⟨ao,cap',e1,_,_,hf⟩:=hw.form;obtain ⟨b',off',e2,hc,hlt,_⟩:=hf j hj;injection e1 with e1 _ _;subst e1;injection e2 with e2;injection e2 with e2 e3;subst e2 e3;have hbut:But (fun x=>c x=i) w (w.setCell ⟨b,off + j,none⟩ u):=(But.refl _ w).setCell (p:=⟨b,off + j,none⟩) (fun _=>hc) _;have hg:¬ c g=i:=by rw [h.cg];omega
 refine ⟨⟨h.bl.trans (hbut.below h.bl.size fun x hx=>(h.dom x (by omega)).1),h.gd,h.cg,fun x hx=>⟨(h.dom x hx).1,aL (h.dom x hx).2 hbut.size⟩,h.own.but hbut hg,fun k k1 k5=>?_,h.nz⟩,hbut⟩;by_cases e:k=i
 · subst e;rw [upd_same,hv];exact hw.set j u hj
 · rw [iB _ _ e];exact (h.win k k1 k5).keep hbut fun x _ hx hi=>e (hx.symm.trans hi)
theorem Wp.recol (h:Wp w0 w g c rows v lv st F) (h9:c' g=9) (hd:∀ b,c' b ≠ 0->w0.heap.size<=b/\b < w.heap.size) (hi:∀ i,1<=i->i<=5->∀ b,c b=i->c' b=i):Wp w0 w g c' rows v lv st F :=
 ⟨h.bl,h.gd,h9,hd,h.own,fun i h1 h5=>(h.win i h1 h5).mono fun b _ hb=>hi i h1 h5 b hb,h.nz⟩
end
def Jp (w0 w:World) (g:Nat) (c:Nat->Nat) (rows:Rw) (lv:Value) (st:Int) (N:List Nj) (F:Option Ft3):Prop :=
 ∃ (v:Nat->Value) (Z:List Zj),Wp w0 w g c (upd rows 2 (Z.length,Z.flatMap tyN)) v lv st F/\Z.map (·.n)=N/\∀ z ∈ Z,Il w (fun b=>c b=7) z
section
variable {w0 w w':World} {g:Nat} {c:Nat->Nat} {rows:Rw} {lv:Value} {st:Int} {N:List Nj} {F:Option Ft3}
theorem Jp.below (h:Jp w0 w g c rows lv st N F) (hb:Below w.heap.size w w'):Jp w0 w' g c rows lv st N F:=by obtain ⟨v,Z,h1,h2,h3⟩:=h;exact ⟨v,Z,h1.below hb,h2,fun z hz=>(h3 z hz).but (S:=fun _=>False) (But.of_below hb) fun _ _ _ h=>h⟩
end
section
variable {w0 w w':World} {g:Nat} {c:Nat->Nat} {rows:Rw} {v:Nat->Value} {lv:Value} {st:Int} {F:Option Ft3} {N:List Nj} {S:Nat->Prop}
theorem Wp.other (h:Wp w0 w g c rows v lv st F) (hb:But S w w') (hS:∀ b,b < w.heap.size->S b->c b=0/\w0.heap.size<=b):Wp w0 w' g c rows v lv st F:=by
 refine ⟨h.bl.trans ((hb.mono (T:=fun b=>w0.heap.size<=b) fun b hlt hs=>(hS b hlt hs).2).below h.bl.size fun b hs=>hs),h.gd,h.cg,fun b hc=>⟨(h.dom b hc).1,aL (h.dom b hc).2 hb.size⟩,h.own.but hb fun hs=>?_,fun i h1 h5=>(h.win i h1 h5).keep hb fun b hlt hc hs=>?_,h.nz⟩
 · have:=(hS g h.own.lt hs).1;rw [h.cg] at this;omega
 · have:=(hS b hlt hs).1;omega
theorem Jp.other (h:Jp w0 w g c rows lv st N F) (hb:But S w w') (hS:∀ b,b < w.heap.size->S b->c b=0/\w0.heap.size<=b):Jp w0 w' g c rows lv st N F:=by obtain ⟨v,Z,h1,h2,h3⟩:=h;refine ⟨v,Z,h1.other hb hS,h2,fun z hz=>(h3 z hz).but hb fun b hlt hc hs=>?_⟩;have:=(hS b hlt hs).1;omega
theorem Wp.grown2 {wq w3:World} {Z:List Zj} (h:Wp w0 w g c (upd rows 2 (Z.length,Z.flatMap tyN)) v lv st F) (hq:Below w.heap.size w wq) {z:Zj} {v':Value} {zn:Nat} (hzn:Z.length=zn)
  (hw:Win (fun b=>c b=2\/wq.heap.size<=b) 62 10 w3 v' (zn + 1) (Z.flatMap tyN ++ tyN z)) (hb:But (fun b=>c b=2) wq w3) :
  Wp w0 (w3.setCell ⟨g,3,none⟩ v') g (Qj c wq w3 2) (upd rows 2 ((Z ++ [z]).length,(Z ++ [z]).flatMap tyN)) (upd v 2 v') lv st F/\But (fun b=>b=g\/c b=2) w (w3.setCell ⟨g,3,none⟩ v')/\Agree w c (Qj c wq w3 2):=by
 have hG:=h.grown hq (i:=2) (by omega) (by omega) (v':=v') (m:=1) (news:=tyN z) (by rw [upd_same];show Win _ _ _ _ _ (Z.length + 1) _;rw [hzn];exact hw) hb;refine ⟨hG.1.rows_eq fun i h1 h5=>?_,hG.2.1,hG.2.2⟩;by_cases e:i=2
 · subst e;rw [upd_same,upd_same,upd_same,List.length_append,List.flatMap_append];simp
 · rw [iB _ _ e,iB _ _ e,iB _ _ e]
theorem jp_close {Z:List Zj} {SK:Nat->Prop} {n b off cap sc:Nat} {so:Option Addr} {ks:List Nat} (h:Wp w0 w g c (upd rows 2 (Z.length,Z.flatMap tyN)) v lv st F) (hK:∀ z ∈ Z,Il w (fun b=>c b=7) z)
  (hv:v 2=.slice (some ⟨b,off,none⟩) Z.length cap) (hn:n < Z.length) (hs:Win SK 3 1 w (.slice so ks.length sc) ks.length (lD ks)) (hSK:∀ b,SK b->c b=0/\w0.heap.size<=b/\b < w.heap.size) :
  ∃ c',Jp w0 (w.setCell ⟨b,off + (n * 10 + 6),none⟩ (.slice so ks.length sc)) g c' rows lv st (Cv (Z.map (·.n)) n ks) F/\But (fun x=>c x=2) w (w.setCell ⟨b,off + (n * 10 + 6),none⟩ (.slice so ks.length sc))/\∀ b,¬ SK b->c' b=c b:=by
 have hS:=h.setrow (i:=2) (b:=b) (off:=off) (cap:=cap) (j:=n * 10 + 6) (by omega) (by omega) (by rw [upd_same];exact hv) (.slice so ks.length sc) (by rw [upd_same];show n * 10 + 6 < Z.length * 10;omega);obtain ⟨h1,hb⟩:=hS;have hdec:∀ b,SK b\/¬ SK b:=fun b=>Classical.em _
 obtain ⟨c',hc1,hc2⟩:∃ c':Nat->Nat,(∀ b,SK b->c' b=7)/\∀ b,¬ SK b->c' b=c b :=
  ⟨fun b=>@ite _ (SK b) (Classical.propDecidable _) 7 (c b),fun b hb=>if_pos hb,fun b hb=>if_neg hb⟩
 have hg:¬ SK g:=fun e=>by have:=(hSK g e).1;rw [h.cg] at this;omega
 refine ⟨c',⟨v,Pi Z n ks so sc,?_,A2K Z n ks so sc,fun z hz=>?_⟩,hb,hc2⟩
 ·
  refine ((h1.rows_eq (rows':=upd rows 2 ((Pi Z n ks so sc).length,(Pi Z n ks so sc).flatMap tyN)) fun i k1 k5=>?_).recol (c':=c') ((hc2 g hg).trans h.cg) (fun x hx=>?_) (fun i k1 k5 x hx=>?_))
  ·
   by_cases e:i=2
   · subst e;rw [upd_same,upd_same,upd_same,B3L,A2L Z n ks so sc hn]
   · rw [iB _ _ e,iB _ _ e,iB _ _ e]
  ·
   rcases hdec x with hx2 | hx2
   · have:=hSK x hx2;exact ⟨this.2.1,aL this.2.2 hb.size⟩
   · rw [hc2 x hx2] at hx;exact ⟨(h.dom x hx).1,aL (h.dom x hx).2 hb.size⟩
  · rw [hc2 x (fun e=>by have:=(hSK x e).1;omega)];exact hx
 ·
  rcases B3M hz with hz | ⟨e1,e2,e3⟩
  ·
   refine ((hK z hz).but hb fun x _ hx hx2=>?_).mono fun x _ hx=>?_
   · have hx2:c x=2:=hx2;omega
   · rw [hc2 x (fun e=>by have:=(hSK x e).1;omega)];exact hx
  · obtain ⟨ao,cap,q1,q2,-⟩:=hs.form;injection q1 with q3 q4 q5;refine ⟨?_,by rw [e2,e3];omega⟩;rw [e1,e2];refine ((Tq hs).but hb fun x _ hx hx2=>?_).mono fun x _ hx=>hc1 x hx;have:=(hSK x hx).1;have hx2:c x=2:=hx2;omega
end
end Go.Proofs.YthkdnehgamefiaaGreat
