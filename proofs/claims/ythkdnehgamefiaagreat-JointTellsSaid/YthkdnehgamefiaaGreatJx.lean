import Derived.Test.YthkdnehgamefiaaGreatRgR
namespace Go.Proofs.YthkdnehgamefiaaGreat
set_option linter.unusedVariables false
open Go.RowKit Go.Sort
structure Nj where
 op:Int
 tx:ByteArray
 s0:Int
 s1:Int
 s2:Int
 s3:Int
 ks:List Nat
 tg:Int
 mo:Nat
 ru:Int
structure Hj where
 mo:Nat
 nm:ByteArray
 bo:Nat
structure Gj where
 ms:List ByteArray
 ns:List Nj
 hs:List Hj
 ws:List Int
 st:Int
abbrev Ft3:=Int × Int × Int
def orF:Option Ft3->Option Ft3->Option Ft3
 | some f,_=>some f
 | none,b=>b
def toO (ML:List Md) (F:List Nat) (mod:Nat) (e:Ex):Option Int :=
 if e.op=11 then (match uD ML (mod:Int) e.text with
  | (m,r,true)=>some ((F.getD m.toNat 0:Nat) + r)
  | (_,_,false)=>none)
 else some (-1)
def sW (e:Ex) (ks:List Nat) (tt:Int) (mod:Nat) (ru:Int):Nj:=⟨e.op,e.text,e.s0,e.s1,e.s2,e.s3,ks,tt,mod,ru⟩
def Cv (N:List Nj) (n:Nat) (ks:List Nat):List Nj:=N.modify n (fun x=>{ x with ks:=ks })
abbrev Pt:=List Nj × Option Ft3 × Nat
abbrev Pk:=List Nj × Option Ft3 × List Nat
def kV (P:Ex->List Nj->Pt):List Ex->List Nj->List Nat->Pk
 | [],N,ks=>(N,none,ks)
 | y :: r,N,ks=>match P y N with
  | (N',none,n)=>kV P r N' (ks ++ [n])
  | (N',some f,n)=>(N',some f,ks ++ [n])
def AY (n:Nat):Pk->Pt
 | (N,none,ks)=>(Cv N n ks,none,n)
 | (N,some f,_)=>(N,some f,n)
def uS (ML:List Md) (F:List Nat) (mod:Nat) (ru:Int):Nat->Ex->List Nj->Pt
 | 0,_,N=>(N,none,0)
 | d + 1,e,N=>if 160<=N.length then (N,some (3,(mod:Int),ru),0) else match toO ML F mod e with
  | none=>(N,some (5,(mod:Int),ru),0)
  | some tt=>AY N.length (kV (uS ML F mod ru d) e.kids (N ++ [sW e [] tt mod ru]) [])
def nL (no:ByteArray):List ByteArray->List ByteArray->Bool
 | _,[]=>true
 | B,x :: r=>bN x && !(x.toList == no.toList) && !(hasB B x) && nL no (B ++ [x]) r
def Qx (m:Md):Bool:=bN m.nm && decide (m.im.length<=4) && nL m.nm [] m.im && decide (m.ru.length<=24) && (!m.wet || dQ 53 m.wa) && m.ru.all (fun r=>dQ 53 r.2) && nL ⟨#[]⟩ [] (m.ru.map (·.1))
def hdE (ML:List Md) (i:Nat) (m:Md):Option Ft3 :=
 if 4<=i then some (3,(i:Int),-1) else if Qx m=false then some (1,(i:Int),-1) else if cB ML m.nm=(i:Int) then none else some (4,(i:Int),-1)
def kU:List Md->Nat->List Nat
 | [],_=>[]
 | m :: r,s=>s :: kU r (s + m.ru.length)
def hd1 (ML:List Md):List Md->Nat->Nat->Option Ft3->Option Ft3
 | [],_,_,F=>F
 | m :: r,i,s,F=>hd1 ML r (i + 1) (s + m.ru.length) (orF (orF F (hdE ML i m)) (if 24 < s + m.ru.length then some (3,(i:Int),-1) else none))
def imF (ML:List Md) (i:Nat):List ByteArray->Option Ft3->Option Ft3
 | [],F=>F
 | x :: r,F=>imF ML i r (if cB ML x < 0 then orF F (some (5,(i:Int),-1)) else F)
def hd2 (ML:List Md):List Md->Nat->Option Ft3->Option Ft3
 | [],_,F=>F
 | m :: r,i,F=>hd2 ML r (i + 1) (imF ML i m.im F)
def ruF (P:Int->Ex->List Nj->Pt) (mod:Nat):List (ByteArray × Ex)->Nat->List Nj->List Hj->List Nj × Option Ft3 × List Hj
 | [],_,N,H=>(N,none,H)
 | r :: rs,k,N,H=>match P (k:Int) r.2 N with
  | (N',none,n)=>ruF P mod rs (k + 1) N' (H ++ [⟨mod,r.1,n⟩])
  | (N',some f,n)=>(N',some f,H ++ [⟨mod,r.1,n⟩])
structure Sj where
 ms:List ByteArray
 ns:List Nj
 hs:List Hj
 ws:List Int
def waF (P:Int->Ex->List Nj->Pt) (m:Md) (N:List Nj):List Nj × Option Ft3 × Int :=
 if m.wet=true then (match P (-1) m.wa N with | (N',f,n)=>(N',f,(n:Int))) else (N,none,-1)
def mdF (P:Nat->Int->Ex->List Nj->Pt):List Md->Nat->Sj->Sj × Option Ft3
 | [],_,s=>(s,none)
 | m :: r,i,s=>match waF (P i) m s.ns with
  | (N1,some f,wt)=>(⟨s.ms ++ [m.nm],N1,s.hs,s.ws ++ [wt]⟩,some f)
  | (N1,none,wt)=>match ruF (P i) i m.ru 0 N1 s.hs with
   | (N2,some f,H)=>(⟨s.ms ++ [m.nm],N2,H,s.ws ++ [wt]⟩,some f)
   | (N2,none,H)=>mdF P r (i + 1) ⟨s.ms ++ [m.nm],N2,H,s.ws ++ [wt]⟩
def yZ (ML:List Md) (F:List Nat) (s:ByteArray):Option Int :=
 if splitB s=true then
  (if (iA s).toList=[] then (match uD ML 0 s with
   | (m,r,true)=>some ((F.getD m.toNat 0:Nat) + r)
   | (_,_,false)=>none)
  else if 0<=cB ML (iA s) then
   (if 0<=xM ML (cB ML (iA s)) (iN s) then some ((F.getD (cB ML (iA s)).toNat 0:Nat) + xM ML (cB ML (iA s)) (iN s)) else none)
  else none)
 else none
def hdO (ML:List Md):Option Ft3:=hd2 ML ML 0 (hd1 ML ML 0 0 none)
def mdO (ML:List Md):Sj × Option Ft3:=mdF (fun i k=>uS ML (kU ML 0) i k 53) ML 0 ⟨[],[],[],[]⟩
def iW (ML:List Md) (s:ByteArray):Except Ft3 Gj:=match hdO ML with
 | some f=>.error f
 | none=>match mdO ML with
  | (_,some f)=>.error f
  | (g,none)=>match yZ ML (kU ML 0) s with
   | none=>.error (5,-1,-1)
   | some st=>.ok ⟨g.ms,g.ns,g.hs,g.ws,st⟩
def bR:Gj:=match iW lG ⟨#[109,97,105,110]⟩ with | .ok g=>g | .error _=>⟨[],[],[],[],0⟩
theorem B9p:iW lG ⟨#[109,97,105,110]⟩=.ok bR:=by kernel_rfl
theorem nG (gr:Gj):∃ a b c d:Nat,gr.ns.length=a/\gr.hs.length=b/\gr.ms.length=c/\gr.ws.length=d:=⟨_,_,_,_,rfl,rfl,rfl,rfl⟩
def nC (w:World) (R:Nat->Prop) (ao:Option Addr) (L:List Nat):Prop:=∀ (k x:Nat),L[k]?=some x->∃ b off,ao=some ⟨b,off,none⟩/\b < w.heap.size/\R b/\w.cell? ⟨b,off + k,none⟩=some (.int .i64 (x:Int))
theorem nC.but {S R:Nat->Prop} {w w':World} {ao:Option Addr} {L:List Nat} (h:nC w R ao L) (hb:But S w w') (hS:∀ j,j < w.heap.size->R j->¬ S j):nC w' R ao L:=fun k x hx=>by obtain ⟨b,off,e,hlt,hr,c⟩:=h k x hx;exact ⟨b,off,e,aL hlt hb.size,hr,hb.cell (hS b hlt hr) c⟩
theorem nC.mono {R T:Nat->Prop} {w:World} {ao:Option Addr} {L:List Nat} (h:nC w R ao L) (hR:∀ b,b < w.heap.size->R b->T b):nC w T ao L:=fun k x hx=>by obtain ⟨b,off,e,hlt,hr,c⟩:=h k x hx;exact ⟨b,off,e,hlt,hR b hlt hr,c⟩
theorem nC.nil (w:World) (R:Nat->Prop) (ao:Option Addr):nC w R ao []:=fun k x h=>by simp at h
def lD (L:List Nat):List Value:=L.map (fun x:Nat=>Value.int .i64 (x:Int))
theorem Tq {S:Nat->Prop} {w:World} {ao:Option Addr} {n c:Nat} {L:List Nat} (h:Win S 3 1 w (.slice ao n c) n (lD L)):nC w S ao L:=fun k x hx=>by
 have hk:k < L.length:=(aS.1 hx).1;have hn:L.length=n:=by have:=h.1;simpa [lD] using this
 obtain ⟨ao',cap,e1,h1,h2,hf⟩:=h.form;injection e1 with e1 e2 e3;subst e1;obtain ⟨g,off,e,hs,hg,hc,_⟩:=hf k (by omega);exact ⟨g,off,e,hg,hs,by rw [hc,lD,List.getElem?_map,hx];rfl⟩
structure Zj where
 n:Nj
 ko:Option Addr
 kc:Nat
def B5Q (n:Nj) (ks:Value):List Value:=[.int .i64 n.op,.string n.tx,.int .u64 n.s0,.int .u64 n.s1,.int .u64 n.s2,.int .u64 n.s3,ks,.int .i64 n.tg,.int .i64 (n.mo:Int),.int .i64 n.ru]
def Il (w:World) (R:Nat->Prop) (z:Zj):Prop:=nC w R z.ko z.n.ks/\z.n.ks.length<=z.kc
theorem Il.but {S R:Nat->Prop} {w w':World} {z:Zj} (h:Il w R z) (hb:But S w w') (hS:∀ j,j < w.heap.size->R j->¬ S j):Il w' R z:=⟨h.1.but hb hS,h.2⟩
theorem Il.mono {R T:Nat->Prop} {w:World} {z:Zj} (h:Il w R z) (hR:∀ b,b < w.heap.size->R b->T b):Il w T z:=⟨h.1.mono hR,h.2⟩
def tyN (z:Zj):List Value:=B5Q z.n (.slice z.ko z.n.ks.length z.kc)
theorem JC:∀ (Z:List Zj) (k j:Nat) (z:Zj),Z[k]?=some z->j < 10->(Z.flatMap tyN)[k * 10 + j]?=(tyN z)[j]?
 | [],k,j,z,hk,hj=>by simp at hk
 | x :: L,0,j,z,hk,hj=>by simp at hk;subst hk;rw [List.flatMap_cons,List.getElem?_append_left (by show 0 * 10 + j < 10;omega),Nat.zero_mul,Nat.zero_add]
 | x :: L,k + 1,j,z,hk,hj=>by rw [List.flatMap_cons,List.getElem?_append_right (by show 10<=(k + 1) * 10 + j;omega),show (k + 1) * 10 + j - (tyN x).length=k * 10 + j by show (k + 1) * 10 + j - 10=_;omega];exact JC L k j z (by simpa using hk) hj
def Pi (Z:List Zj) (n:Nat) (ks:List Nat) (ko:Option Addr) (kc:Nat):List Zj:=Z.modify n (fun z=>⟨{ z.n with ks:=ks },ko,kc⟩)
theorem B3L (Z:List Zj) (n:Nat) (ks:List Nat) (ko:Option Addr) (kc:Nat):(Pi Z n ks ko kc).length=Z.length:=by unfold Pi;simp
theorem A2K:∀ (Z:List Zj) (n:Nat) (ks:List Nat) (ko:Option Addr) (kc:Nat),(Pi Z n ks ko kc).map (·.n)=Cv (Z.map (·.n)) n ks
 | [],n,ks,ko,kc=>by unfold Pi Cv;simp
 | z :: Z,0,ks,ko,kc=>by unfold Pi Cv;simp
 | z :: Z,n + 1,ks,ko,kc=>by have ih:=A2K Z n ks ko kc;unfold Pi Cv at ih ⊢;simp only [List.modify_succ_cons,List.map_cons,ih]
theorem A2L:∀ (Z:List Zj) (n:Nat) (ks:List Nat) (ko:Option Addr) (kc:Nat),n < Z.length->(Pi Z n ks ko kc).flatMap tyN=(Z.flatMap tyN).set (n * 10 + 6) (.slice ko ks.length kc)
 | [],n,ks,ko,kc,h=>by simp at h
 | z :: Z,0,ks,ko,kc,h=>by unfold Pi;simp only [List.modify_zero_cons,List.flatMap_cons];rfl
 | z :: Z,n + 1,ks,ko,kc,h=>by
  have ih:=A2L Z n ks ko kc (by simpa using h);unfold Pi at ih ⊢;simp only [List.modify_succ_cons,List.flatMap_cons,ih];rw [List.set_append_right _ _ (by show 10<=(n + 1) * 10 + 6;omega)]
  congr 2
  show n * 10 + 6=(n + 1) * 10 + 6 - 10;omega
theorem B3M {Z:List Zj} {n:Nat} {ks:List Nat} {ko:Option Addr} {kc:Nat} {z:Zj} (h:z ∈ Pi Z n ks ko kc):z ∈ Z\/(z.ko=ko/\z.n.ks=ks/\z.kc=kc):=by
 unfold Pi at h;obtain ⟨k,hk⟩:=List.mem_iff_getElem?.1 h;rw [List.getElem?_modify] at hk
 cases hz:Z[k]? with
 | none=>rw [hz] at hk;simp at hk
 | some y =>
  rw [hz] at hk;by_cases e:n=k
  · subst e;simp at hk;subst hk;exact .inr ⟨rfl,rfl,rfl⟩
  · simp [e] at hk;subst hk;exact .inl (aM hz)
def zD (h:Hj):List Value:=[.int .i64 (h.mo:Int),.string h.nm,.int .i64 (h.bo:Int)]
theorem A0K:∀ (Z:List Hj) (k j:Nat) (z:Hj),Z[k]?=some z->j < 3->(Z.flatMap zD)[k * 3 + j]?=(zD z)[j]?
 | [],k,j,z,hk,hj=>by simp at hk
 | x :: L,0,j,z,hk,hj=>by simp at hk;subst hk;rw [List.flatMap_cons,List.getElem?_append_left (by show 0 * 3 + j < 3;omega),Nat.zero_mul,Nat.zero_add]
 | x :: L,k + 1,j,z,hk,hj=>by rw [List.flatMap_cons,List.getElem?_append_right (by show 3<=(k + 1) * 3 + j;omega),show (k + 1) * 3 + j - (zD x).length=k * 3 + j by show (k + 1) * 3 + j - 3=_;omega];exact A0K L k j z (by simpa using hk) hj
def tyJ:Nat->TypeId
 | 1=>9
 | 2=>62
 | 3=>64
 | _=>3
def szJ:Nat->Nat
 | 2=>10
 | 3=>3
 | _=>1
def upd {α:Type} (f:Nat->α) (i:Nat) (a:α):Nat->α:=fun j=>if j=i then a else f j
theorem upd_same {α:Type} (f:Nat->α) (i:Nat) (a:α):upd f i a i=a:=if_pos rfl
theorem iB {α:Type} (f:Nat->α) {i j:Nat} (a:α) (h:j ≠ i):upd f i a j=f j:=if_neg h
def e3:Option Ft3->Int
 | none=>0
 | some f=>f.1
def m3:Option Ft3->Int
 | none=>0
 | some f=>f.2.1
def r3:Option Ft3->Int
 | none=>0
 | some f=>f.2.2
abbrev Rw:=Nat->Nat × List Value
def A6l (lv:Value) (v:Nat->Value) (st:Int) (F:Option Ft3):List Value:=[lv,v 1,v 2,v 3,v 4,.int .i64 st,v 5,.int .i64 (e3 F),.int .i64 0,.int .i64 (m3 F),.int .i64 (r3 F)]
def ceJ:Nat->Nat
 | 5=>6
 | i=>i
structure Wk (w0 w:World) (g:Nat) (c:Nat->Nat) (rows:Rw) (v:Nat->Value) (lv:Value) (st:Int) (F:Option Ft3):Prop where
 bl:Below w0.heap.size w0 w
 gd:w0.heap.size<=g
 cg:c g=9
 dom:∀ b,c b ≠ 0->w0.heap.size<=b/\b < w.heap.size
 own:Own w g 71 (A6l lv v st F)
 win:∀ i,1<=i->i<=5->Win (fun b=>c b=i) (tyJ i) (szJ i) w (v i) (rows i).1 (rows i).2
 nz:∀ f,F=some f->f.1 ≠ 0
section
variable {w0 w w' w3 wq:World} {g:Nat} {c c':Nat->Nat} {rows rows':Rw} {v:Nat->Value} {lv:Value} {st:Int} {F:Option Ft3}
theorem Wk.below (h:Wk w0 w g c rows v lv st F) (hb:Below w.heap.size w w'):Wk w0 w' g c rows v lv st F :=
 ⟨h.bl.trans (hb.mono h.bl.size),h.gd,h.cg,fun b hc=>⟨(h.dom b hc).1,aL (h.dom b hc).2 hb.size⟩,h.own.under hb h.own.lt,fun i h1 h2=>(h.win i h1 h2).below hb,h.nz⟩
theorem Wk.rows_eq (h:Wk w0 w g c rows v lv st F) (he:∀ i,1<=i->i<=5->rows i=rows' i):Wk w0 w g c rows' v lv st F :=
 ⟨h.bl,h.gd,h.cg,h.dom,h.own,fun i h1 h2=>by rw [<- he i h1 h2];exact h.win i h1 h2,h.nz⟩
def Agree (w:World) (c c':Nat->Nat):Prop:=∀ b,b < w.heap.size->c' b=c b
theorem Agree.refl (w:World) (c:Nat->Nat):Agree w c c:=fun _ _=>rfl
theorem Agree.trans {c1 c2:Nat->Nat} (h:Agree w c c1) (k:Agree w' c1 c2) (hs:w.heap.size<=w'.heap.size):Agree w c c2:=fun b hb=>(k b (aL hb hs)).trans (h b hb)
def Qj (c:Nat->Nat) (wq w3:World) (i:Nat):Nat->Nat:=fun b=>if wq.heap.size<=b/\b < w3.heap.size then i else c b
theorem Wk.grown (h:Wk w0 w g c rows v lv st F) (hq:Below w.heap.size w wq) {i:Nat} (h1:1<=i) (h5:i<=5) {v':Value} {m:Nat} {news:List Value}
  (hw:Win (fun b=>c b=i\/wq.heap.size<=b) (tyJ i) (szJ i) w3 v' ((rows i).1 + m) ((rows i).2 ++ news)) (hb:But (fun b=>c b=i) wq w3) :
  Wk w0 (w3.setCell ⟨g,ceJ i,none⟩ v') g (Qj c wq w3 i) (upd rows i ((rows i).1 + m,(rows i).2 ++ news)) (upd v i v') lv st F/\But (fun b=>b=g\/c b=i) w (w3.setCell ⟨g,ceJ i,none⟩ v')/\Agree w c (Qj c wq w3 i):=by
 have hq':=h.below hq;have hi9:i ≠ 9:=by omega
 have hg:¬ c g=i:=by rw [h.cg];exact fun e=>hi9 e.symm
 have hlt:=hq'.own.lt;have hne:∀ b,wq.heap.size<=b->c b=0:=fun b hb=>by
  by_cases e:c b=0
  · exact e
  · have:=(hq'.dom b e).2;omega
 have hold:∀ b,b < wq.heap.size->Qj c wq w3 i b=c b:=fun b hb=>if_neg (by omega)
 have hbut:But (fun b=>b=g\/c b=i) wq (w3.setCell ⟨g,ceJ i,none⟩ v') :=
  (hb.mono (T:=fun b=>b=g\/c b=i) fun b _ h=>.inr h).setCell (p:=⟨g,ceJ i,none⟩) (fun _=>.inl rfl) _
 refine ⟨⟨?_,h.gd,?_,?_,?_,?_,h.nz⟩,(But.of_below hq).trans hbut (fun b _ hb=>hb),fun b hb=>hold b (aL hb hq.size)⟩
 ·
  refine (hq'.bl).trans (hbut.below hq'.bl.size ?_);rintro b (rfl | hb)
  · exact h.gd
  · exact (h.dom b (by omega)).1
 · rw [hold g hlt];exact h.cg
 ·
  intro b hb';have hs:=hb.size;have hs2:=hq'.bl.size;rw [show (w3.setCell ⟨g,ceJ i,none⟩ v').heap.size=w3.heap.size by simp [World.setCell]];unfold Qj at hb';split at hb'
  · omega
  · have:=hq'.dom b hb';omega
 ·
  have ho:=(hq'.own.but hb hg).put (ceJ i) v';obtain rfl | rfl | rfl | rfl | rfl:i=1\/i=2\/i=3\/i=4\/i=5:=by omega
  all_goals exact ho
 ·
  intro k k1 k5;by_cases e:k=i
  ·
   subst e;rw [upd_same,upd_same];refine (hw.mono (T:=fun b=>Qj c wq w3 k b=k) fun b hb' hc=>?_).keep (T:=fun b=>b=g) (But.put w3 g (ceJ k) v') (fun b _ hb'=>?_)
   ·
    rcases hc with hc | hc
    ·
     by_cases hlt2:b < wq.heap.size
     · rw [hold b hlt2];exact hc
     · exact if_pos ⟨by omega,hb'⟩
    · exact if_pos ⟨hc,hb'⟩
   · rintro rfl;rw [hold b hlt,h.cg] at hb';omega
  ·
   rw [iB _ _ e,iB _ _ e];have hk:=hq'.win k k1 k5;refine ((hk.keep hb fun b _ hbk hbi=>e (hbk.symm.trans hbi)).mono (T:=fun b=>Qj c wq w3 i b=k) fun b hb' hc=>?_).keep (T:=fun b=>b=g) (But.put w3 g (ceJ i) v') (fun b _ hb'=>?_)
   ·
    by_cases hlt2:b < wq.heap.size
    · rw [hold b hlt2];exact hc
    · rw [hne b (by omega)] at hc;omega
   · rintro rfl;rw [hold b hlt,h.cg] at hb';omega
theorem Wk.turn {st':Int} {F':Option Ft3} (h:Wk w0 w g c rows v lv st F) (hb:But (fun b=>b=g) w w') (ho:Own w' g 71 (A6l lv v st' F')) (hn:∀ f,F'=some f->f.1 ≠ 0):Wk w0 w' g c rows v lv st' F':=by refine ⟨h.bl.trans (hb.below h.bl.size fun b e=>e ▸ h.gd),h.gd,h.cg,fun b hc=>⟨(h.dom b hc).1,aL (h.dom b hc).2 hb.size⟩,ho,fun i h1 h2=>(h.win i h1 h2).keep hb fun b _ hc e=>?_,hn⟩;have e:b=g:=e;rw [e,h.cg] at hc;omega
theorem Wk.fault (h:Wk w0 w g c rows v lv st none) (f:Ft3) (hf:f.1 ≠ 0) :
  Wk w0 ((((w.setCell ⟨g,7,none⟩ (.int .i64 f.1)).setCell ⟨g,8,none⟩ (.int .i64 0)).setCell ⟨g,9,none⟩ (.int .i64 f.2.1)).setCell ⟨g,10,none⟩ (.int .i64 f.2.2)) g c rows v lv st (some f) ∧
  But (fun b=>b=g) w ((((w.setCell ⟨g,7,none⟩ (.int .i64 f.1)).setCell ⟨g,8,none⟩ (.int .i64 0)).setCell ⟨g,9,none⟩ (.int .i64 f.2.1)).setCell ⟨g,10,none⟩ (.int .i64 f.2.2)):=by
 have hb:But (fun b=>b=g) w ((((w.setCell ⟨g,7,none⟩ (.int .i64 f.1)).setCell ⟨g,8,none⟩ (.int .i64 0)).setCell ⟨g,9,none⟩ (.int .i64 f.2.1)).setCell ⟨g,10,none⟩ (.int .i64 f.2.2)) :=
  ((((But.refl (fun j=>j=g) w).setCell (p:=⟨g,7,none⟩) (fun _=>rfl) _).setCell (p:=⟨g,8,none⟩) (fun _=>rfl) _).setCell (p:=⟨g,9,none⟩) (fun _=>rfl) _).setCell (p:=⟨g,10,none⟩) (fun _=>rfl) _
 exact ⟨h.turn hb ((((h.own.put 7 _).put 8 _).put 9 _).put 10 _) (fun f' e=>by cases e;exact hf),hb⟩
theorem Wk.setrow (h:Wk w0 w g c rows v lv st F) {i b off cap j:Nat} (h1:1<=i) (h5:i<=5) (hv:v i=.slice (some ⟨b,off,none⟩) (rows i).1 cap) (u:Value) (hj:j < (rows i).1 * szJ i) :
  Wk w0 (w.setCell ⟨b,off + j,none⟩ u) g c (upd rows i ((rows i).1,(rows i).2.set j u)) v lv st F/\But (fun x=>c x=i) w (w.setCell ⟨b,off + j,none⟩ u):=by
 have hw:=h.win i h1 h5;rw [hv] at hw;obtain ⟨ao,cap',e1,_,_,hf⟩:=hw.form;obtain ⟨b',off',e2,hc,hlt,_⟩:=hf j hj;injection e1 with e1 _ _;subst e1;injection e2 with e2;injection e2 with e2 e3;subst e2 e3;have hbut:But (fun x=>c x=i) w (w.setCell ⟨b,off + j,none⟩ u):=(But.refl _ w).setCell (p:=⟨b,off + j,none⟩) (fun _=>hc) _;have hg:¬ c g=i:=by rw [h.cg];omega
 refine ⟨⟨h.bl.trans (hbut.below h.bl.size fun x hx=>(h.dom x (by omega)).1),h.gd,h.cg,fun x hx=>⟨(h.dom x hx).1,aL (h.dom x hx).2 hbut.size⟩,h.own.but hbut hg,fun k k1 k5=>?_,h.nz⟩,hbut⟩;by_cases e:k=i
 · subst e;rw [upd_same,hv];exact hw.set j u hj
 · rw [iB _ _ e];exact (h.win k k1 k5).keep hbut fun x _ hx hi=>e (hx.symm.trans hi)
theorem Wk.recol (h:Wk w0 w g c rows v lv st F) (h9:c' g=9) (hd:∀ b,c' b ≠ 0->w0.heap.size<=b/\b < w.heap.size) (hi:∀ i,1<=i->i<=5->∀ b,c b=i->c' b=i):Wk w0 w g c' rows v lv st F :=
 ⟨h.bl,h.gd,h9,hd,h.own,fun i h1 h5=>(h.win i h1 h5).mono fun b _ hb=>hi i h1 h5 b hb,h.nz⟩
end
def Jn (w0 w:World) (g:Nat) (c:Nat->Nat) (rows:Rw) (lv:Value) (st:Int) (N:List Nj) (F:Option Ft3):Prop :=
 ∃ (v:Nat->Value) (Z:List Zj),Wk w0 w g c (upd rows 2 (Z.length,Z.flatMap tyN)) v lv st F/\Z.map (·.n)=N/\∀ z ∈ Z,Il w (fun b=>c b=7) z
section
variable {w0 w w':World} {g:Nat} {c:Nat->Nat} {rows:Rw} {lv:Value} {st:Int} {N:List Nj} {F:Option Ft3}
theorem Jn.below (h:Jn w0 w g c rows lv st N F) (hb:Below w.heap.size w w'):Jn w0 w' g c rows lv st N F:=by obtain ⟨v,Z,h1,h2,h3⟩:=h;exact ⟨v,Z,h1.below hb,h2,fun z hz=>(h3 z hz).but (S:=fun _=>False) (But.of_below hb) fun _ _ _ h=>h⟩
end
@[go_sem 2000] theorem C0l (k m n:Int) (w:World):(Instr.build 44 #[(0,.int .i64 k),(2,.int .i64 m),(3,.int .i64 n)]).run Tryz.prog w=.ok (.agg #[.int .i64 k,.int .i64 0,.int .i64 m,.int .i64 n]) w:=run_build w _ _ _ (by kernel_rfl)
@[go_sem 2000] theorem C0n (o m r a b c d:Int) (t:ByteArray) (w:World):(Instr.build 62 #[(0,.int .i64 o),(1,.string t),(2,.agg #[.int .u64 a,.int .u64 b,.int .u64 c,.int .u64 d]),(4,.int .i64 (-1)),(5,.int .i64 m),(6,.int .i64 r)]).run Tryz.prog w=.ok (.agg #[.int .i64 o,.string t,.int .u64 a,.int .u64 b,.int .u64 c,.int .u64 d,.slice none 0 0,.int .i64 (-1),.int .i64 m,.int .i64 r]) w:=run_build w _ _ _ (by kernel_rfl)
@[go_sem 2000] theorem C0y (ao:Option Addr) (n c:Nat) (w:World):(Instr.build 71 #[(0,.slice ao n c)]).run Tryz.prog w=.ok (.agg #[.slice ao n c,.slice none 0 0,.slice none 0 0,.slice none 0 0,.slice none 0 0,.int .i64 0,.slice none 0 0,.int .i64 0,.int .i64 0,.int .i64 0,.int .i64 0]) w:=run_build w _ _ _ (by kernel_rfl)
theorem A7R:(Tryz.prog.info? 62).map (fun i=>(i.zero,i.size,i.bytes))=some (some (.agg #[.int .i64 0,.string ⟨#[]⟩,.int .u64 0,.int .u64 0,.int .u64 0,.int .u64 0,.slice none 0 0,.int .i64 0,.int .i64 0,.int .i64 0]),10,104):=by kernel_rfl
theorem A7P:(Tryz.prog.info? 64).map (fun i=>(i.zero,i.size,i.bytes))=some (some (.agg #[.int .i64 0,.string ⟨#[]⟩,.int .i64 0]),3,32):=by kernel_rfl
set_option maxRecDepth 1000000 in
set_option maxHeartbeats 1600000 in
theorem nO {w0 w:World} {g:Nat} {c:Nat->Nat} {rows:Rw} {v:Nat->Value} {lv:Value} {st:Int} {F:Option Ft3} (k m r:Int) (hk:k ≠ 0) (h:Wk w0 w g c rows v lv st F) :
  Calls Tryz.prog 55 #[.pointer (some ⟨g,0,none⟩),.int .i64 k,.int .i64 m,.int .i64 r] w fun e w'=>e=.returned (.tuple #[])/\Wk w0 w' g c rows v lv st (orF F (some (k,m,r)))/\But (fun j=>j=g) w w':=by
 have ho:Own w g 71 [lv,v 1,v 2,v 3,v 4,.int .i64 st,v 5,.int .i64 (e3 F),.int .i64 0,.int .i64 (m3 F),.int .i64 (r3 F)]:=h.own;obtain ⟨-,-,-,-,-,-,-,c7,c8,c9,cA⟩:=ho.elev;obtain ⟨-,-,-,-,-,-,-,d7,d8,d9,dA⟩:=ho.elevf;have hg:=ho.lt
 cases F with
 | some f =>
  have c7':w.cell? ⟨g,7,none⟩=some (.int .i64 f.1):=c7;have ef:(f.1 == 0)=false:=aN.2 (h.nz f rfl);have HH:=aH h;clear c7 c8 c9 cA h ho;go_enter Tryz.func55,Tryz.ntmps55;go_wp2
  first
   | (refine bodyPost_ret (results_none rfl _ _ _) rfl ?_;exact ⟨rfl,HH.o,But.refl _ _⟩)
   | (go_end0;exact ⟨rfl,HH.o,But.refl _ _⟩)
 | none =>
  have c7':w.cell? ⟨g,7,none⟩=some (.int .i64 0):=c7;have c8':w.cell? ⟨g,8,none⟩=some (.int .i64 0):=c8;have c9':w.cell? ⟨g,9,none⟩=some (.int .i64 0):=c9;have cA':w.cell? ⟨g,10,none⟩=some (.int .i64 0):=cA;have HF:=aH (h.fault (k,m,r) hk);clear c7 c8 c9 cA h ho;go_enter Tryz.func55,Tryz.ntmps55;go_wp2
  first
   | (refine bodyPost_ret (results_none rfl _ _ _) rfl ?_;exact ⟨rfl,HF.o.1,HF.o.2⟩)
   | (go_end0;exact ⟨rfl,HF.o.1,HF.o.2⟩)
theorem A2A (m:Md) (s:ByteArray):eU m s=-1\/(0<=eU m s/\eU m s < m.ru.length):=by
 have h:=zL (fun r:ByteArray × Ex=>r.1.toList == s.toList) 0 m.ru;rcases h with h | h
 · exact .inl h
 · refine .inr ⟨by have:=h.1;exact this,?_⟩;have h2:eU m s < ((0:Nat):Int) + m.ru.length:=h.2;omega
theorem WY (l:List Md) (mod name:ByteArray):∀ (L:List Int) (m r:Int),(∀ k ∈ L,0<=k)->zR l mod name L=(m,r,true)->∃ (mm:Nat) (md:Md),m=(mm:Int)/\l[mm]?=some md/\r=eU md name/\0<=r/\r < md.ru.length
 | [],m,r,_,h=>by unfold zR at h;simp at h
 | k :: L,m,r,hL,h=>by
  have h0:=hL k (List.mem_cons_self ..);unfold zR at h
  cases hk:l[k.toNat]? with
  | none=>rw [hk] at h;simp at h
  | some md =>
   rw [hk] at h;simp only [] at h;split at h
   · exact WY l mod name L m r (fun x hx=>hL x (List.mem_cons_of_mem _ hx)) h
   ·
    split at h
    ·
     rename_i h1;simp only [Prod.mk.injEq,and_true] at h;obtain ⟨rfl,rfl⟩:=h;refine ⟨k.toNat,md,by omega,hk,rfl,h1,?_⟩;rcases A2A md name with h2 | h2
     · omega
     · exact h2.2
    · exact WY l mod name L m r (fun x hx=>hL x (List.mem_cons_of_mem _ hx)) h
theorem DJ {l:List Md} {i m r:Int} {s:ByteArray} (h:uD l i s=(m,r,true)):∃ (mm:Nat) (md:Md),m=(mm:Int)/\l[mm]?=some md/\r=eU md (iN s)/\0<=r/\r < md.ru.length:=by
 unfold uD at h;split at h
 ·
  rename_i hc;split at h
  · simp at h
  ·
   rename_i md _;refine WY l _ _ _ m r (fun k hk=>?_) h;unfold yN at hk;rcases List.mem_cons.1 hk with rfl | hk
   · exact hc.2.1
   · exact of_decide_eq_true (List.mem_filter.1 hk).2
 · simp at h
def JPo (w0:World) (g:Nat) (rows:Rw) (lv:Value) (st:Int) (r:Pt) (w:World) (c:Nat->Nat) (e:Ending) (w':World):Prop :=
 ∃ c',e=.returned (.int .i64 (r.2.2:Int))/\Jn w0 w' g c' rows lv st r.1 r.2.1/\But (fun b=>b=g\/c b=2) w w'/\Agree w c c'
def B8b (ML:List Md) (F:List Nat) (mod:Nat) (ru:Int) (P:Ex->List Nj->Pt) (e:Ex) (N:List Nj):Pt:=if 160<=N.length then (N,some (3,(mod:Int),ru),0) else match toO ML F mod e with
  | none=>(N,some (5,(mod:Int),ru),0)
  | some tt=>AY N.length (kV P e.kids (N ++ [sW e [] tt mod ru]) [])
theorem A8F (ML:List Md) (F:List Nat) (mod:Nat) (ru:Int) (d:Nat) (e:Ex) (N:List Nj):uS ML F mod ru (d + 1) e N=B8b ML F mod ru (uS ML F mod ru d) e N:=rfl
def KQ (P:Ex->List Nj->Pt) (K:List Ex) (R:Pk) (k:Nat) (N:List Nj) (ks:List Nat):Option Ft3->Prop
 | none=>R=kV P (K.drop k) N ks
 | some f=>R=(N,some f,ks)
theorem KQ.step {P:Ex->List Nj->Pt} {K:List Ex} {R:Pk} {k:Nat} {N N1:List Nj} {ks:List Nat} {y:Ex} {F1:Option Ft3} {n1:Nat} (h:KQ P K R k N ks none) (hy:K[k]?=some y) (hp:P y N=(N1,F1,n1)):KQ P K R (k + 1) N1 (ks ++ [n1]) F1:=by
 have h:R=kV P (K.drop k) N ks:=h;obtain ⟨h1,h2⟩:=aS.1 hy;rw [List.drop_eq_getElem_cons h1,h2] at h;unfold kV at h;rw [hp] at h
 cases F1 with
 | none=>exact h
 | some f=>exact h
theorem KQ.done {P:Ex->List Nj->Pt} {K:List Ex} {R:Pk} {k:Nat} {N:List Nj} {ks:List Nat} (h:KQ P K R k N ks none) (hk:K.length<=k):R=(N,none,ks):=by have h:R=kV P (K.drop k) N ks:=h;rw [List.drop_eq_nil_of_le hk] at h;exact h
section
variable {w0 w w':World} {g:Nat} {c:Nat->Nat} {rows:Rw} {v:Nat->Value} {lv:Value} {st:Int} {F:Option Ft3} {N:List Nj} {S:Nat->Prop}
theorem Wk.other (h:Wk w0 w g c rows v lv st F) (hb:But S w w') (hS:∀ b,b < w.heap.size->S b->c b=0/\w0.heap.size<=b):Wk w0 w' g c rows v lv st F:=by
 refine ⟨h.bl.trans ((hb.mono (T:=fun b=>w0.heap.size<=b) fun b hlt hs=>(hS b hlt hs).2).below h.bl.size fun b hs=>hs),h.gd,h.cg,fun b hc=>⟨(h.dom b hc).1,aL (h.dom b hc).2 hb.size⟩,h.own.but hb fun hs=>?_,fun i h1 h5=>(h.win i h1 h5).keep hb fun b hlt hc hs=>?_,h.nz⟩
 · have:=(hS g h.own.lt hs).1;rw [h.cg] at this;omega
 · have:=(hS b hlt hs).1;omega
theorem Jn.other (h:Jn w0 w g c rows lv st N F) (hb:But S w w') (hS:∀ b,b < w.heap.size->S b->c b=0/\w0.heap.size<=b):Jn w0 w' g c rows lv st N F:=by obtain ⟨v,Z,h1,h2,h3⟩:=h;refine ⟨v,Z,h1.other hb hS,h2,fun z hz=>(h3 z hz).but hb fun b hlt hc hs=>?_⟩;have:=(hS b hlt hs).1;omega
theorem Wk.grown2 {wq w3:World} {Z:List Zj} (h:Wk w0 w g c (upd rows 2 (Z.length,Z.flatMap tyN)) v lv st F) (hq:Below w.heap.size w wq) {z:Zj} {v':Value} {zn:Nat} (hzn:Z.length=zn)
  (hw:Win (fun b=>c b=2\/wq.heap.size<=b) 62 10 w3 v' (zn + 1) (Z.flatMap tyN ++ tyN z)) (hb:But (fun b=>c b=2) wq w3) :
  Wk w0 (w3.setCell ⟨g,2,none⟩ v') g (Qj c wq w3 2) (upd rows 2 ((Z ++ [z]).length,(Z ++ [z]).flatMap tyN)) (upd v 2 v') lv st F/\But (fun b=>b=g\/c b=2) w (w3.setCell ⟨g,2,none⟩ v')/\Agree w c (Qj c wq w3 2):=by
 have hG:=h.grown hq (i:=2) (by omega) (by omega) (v':=v') (m:=1) (news:=tyN z) (by rw [upd_same];show Win _ _ _ _ _ (Z.length + 1) _;rw [hzn];exact hw) hb;refine ⟨hG.1.rows_eq fun i h1 h5=>?_,hG.2.1,hG.2.2⟩;by_cases e:i=2
 · subst e;rw [upd_same,upd_same,upd_same,List.length_append,List.flatMap_append];simp
 · rw [iB _ _ e,iB _ _ e,iB _ _ e]
theorem Ml {c1:Nat->Nat} {Z:List Zj} (h:∀ z ∈ Z,Il w (fun b=>c b=7) z) (hb:But S w w') (hS:∀ b,b < w.heap.size->c b=7->¬ S b) (ha:Agree w c c1):∀ z ∈ Z,Il w' (fun b=>c1 b=7) z:=fun z hz=>by refine ⟨fun k x hx=>?_,(h z hz).2⟩;obtain ⟨b,off,e,hlt,hr,cc⟩:=(h z hz).1 k x hx;exact ⟨b,off,e,aL hlt hb.size,(ha b hlt).trans hr,hb.cell (hS b hlt hr) cc⟩
theorem B0e {Z:List Zj} {SK:Nat->Prop} {n b off cap sc:Nat} {so:Option Addr} {ks:List Nat} (h:Wk w0 w g c (upd rows 2 (Z.length,Z.flatMap tyN)) v lv st F) (hK:∀ z ∈ Z,Il w (fun b=>c b=7) z)
  (hv:v 2=.slice (some ⟨b,off,none⟩) Z.length cap) (hn:n < Z.length) (hs:Win SK 3 1 w (.slice so ks.length sc) ks.length (lD ks)) (hSK:∀ b,SK b->c b=0/\w0.heap.size<=b/\b < w.heap.size) :
  ∃ c',Jn w0 (w.setCell ⟨b,off + (n * 10 + 6),none⟩ (.slice so ks.length sc)) g c' rows lv st (Cv (Z.map (·.n)) n ks) F/\But (fun x=>c x=2) w (w.setCell ⟨b,off + (n * 10 + 6),none⟩ (.slice so ks.length sc))/\∀ b,¬ SK b->c' b=c b:=by
 have hS:=h.setrow (i:=2) (b:=b) (off:=off) (cap:=cap) (j:=n * 10 + 6) (by omega) (by omega) (by rw [upd_same];exact hv) (.slice so ks.length sc) (by rw [upd_same];show n * 10 + 6 < Z.length * 10;omega);obtain ⟨h1,hb⟩:=hS;have hdec:∀ b,SK b\/¬ SK b:=fun b=>Classical.em _
 obtain ⟨c',hc1,hc2⟩:∃ c':Nat->Nat,(∀ b,SK b->c' b=7)/\∀ b,¬ SK b->c' b=c b :=
  ⟨fun b=>@ite _ (SK b) (Classical.propDecidable _) 7 (c b),fun b hb=>if_pos hb,fun b hb=>if_neg hb⟩
 have hg:¬ SK g:=fun e=>by have:=(hSK g e).1;rw [h.cg] at this;omega
 refine ⟨c',⟨v,Pi Z n ks so sc,?_,A2K Z n ks so sc,fun z hz=>?_⟩,hb,hc2⟩
 ·
  refine ((h1.rows_eq (rows':=upd rows 2 ((Pi Z n ks so sc).length,(Pi Z n ks so sc).flatMap tyN)) fun i k1 k5=>?_).recol (c':=c') ((hc2 g hg).trans h.cg) (fun x hx=>?_) (fun i k1 k5 x hx=>?_))
  ·
   by_cases e:i=2
   · subst e;rw [upd_same,upd_same,upd_same,B3L,A2L Z n ks so sc hn]
   · rw [iB _ _ e,iB _ _ e,iB _ _ e]
  ·
   rcases hdec x with hx2 | hx2
   · have:=hSK x hx2;exact ⟨this.2.1,aL this.2.2 hb.size⟩
   · rw [hc2 x hx2] at hx;exact ⟨(h.dom x hx).1,aL (h.dom x hx).2 hb.size⟩
  · rw [hc2 x (fun e=>by have:=(hSK x e).1;omega)];exact hx
 ·
  rcases B3M hz with hz | ⟨e1,e2,e3⟩
  ·
   refine ((hK z hz).but hb fun x _ hx hx2=>?_).mono fun x _ hx=>?_
   · have hx2:c x=2:=hx2;omega
   · rw [hc2 x (fun e=>by have:=(hSK x e).1;omega)];exact hx
  · obtain ⟨ao,cap,q1,q2,-⟩:=hs.form;injection q1 with q3 q4 q5;refine ⟨?_,by rw [e2,e3];omega⟩;rw [e1,e2];refine ((Tq hs).but hb fun x _ hx hx2=>?_).mono fun x _ hx=>hc1 x hx;have:=(hSK x hx).1;have hx2:c x=2:=hx2;omega
end
end Go.Proofs.YthkdnehgamefiaaGreat
