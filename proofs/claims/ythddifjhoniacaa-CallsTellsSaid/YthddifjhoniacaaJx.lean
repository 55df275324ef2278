import Derived.Test.YthddifjhoniacaaRgR
import Derived.Test.YthddifjhoniacaaHv
namespace Go.Proofs.Ythddifjhoniacaa
set_option linter.unusedVariables false
open Go.RowKit Go.Sort
structure Nj where
 op:Int
 tx:ByteArray
 s0:Int
 s1:Int
 s2:Int
 s3:Int
 ks:List Nat
 tg:Int
 mo:Nat
 ru:Int
structure Hj where
 mo:Nat
 nm:ByteArray
 bo:Nat
structure Gj where
 ms:List ByteArray
 ns:List Nj
 hs:List Hj
 ws:List Int
 st:Int
abbrev Ft3:=Int × Int × Int
def orF:Option Ft3->Option Ft3->Option Ft3
 | some f,_=>some f
 | none,b=>b
def toO (ML:List Md) (F:List Nat) (mod:Nat) (e:Ex):Option Int :=
 if e.op=11 then (match resO ML (mod:Int) e.text with
  | (m,r,true)=>some ((F.getD m.toNat 0:Nat) + r)
  | (_,_,false)=>none)
 else some (-1)
def nodeJ (e:Ex) (ks:List Nat) (tt:Int) (mod:Nat) (ru:Int):Nj:=⟨e.op,e.text,e.s0,e.s1,e.s2,e.s3,ks,tt,mod,ru⟩
def setK (N:List Nj) (n:Nat) (ks:List Nat):List Nj:=N.modify n (fun x=>{ x with ks:=ks })
abbrev Pt:=List Nj × Option Ft3 × Nat
abbrev Pk:=List Nj × Option Ft3 × List Nat
def kidsF (P:Ex->List Nj->Pt):List Ex->List Nj->List Nat->Pk
 | [],N,ks=>(N,none,ks)
 | y :: r,N,ks=>match P y N with
  | (N',none,n)=>kidsF P r N' (ks ++ [n])
  | (N',some f,n)=>(N',some f,ks ++ [n])
def endK (n:Nat):Pk->Pt
 | (N,none,ks)=>(setK N n ks,none,n)
 | (N,some f,_)=>(N,some f,n)
def putN (ML:List Md) (F:List Nat) (mod:Nat) (ru:Int):Nat->Ex->List Nj->Pt
 | 0,_,N=>(N,none,0)
 | d + 1,e,N=>if 160<=N.length then (N,some (3,(mod:Int),ru),0) else match toO ML F mod e with
  | none=>(N,some (5,(mod:Int),ru),0)
  | some tt=>endK N.length (kidsF (putN ML F mod ru d) e.kids (N ++ [nodeJ e [] tt mod ru]) [])
def apartB (no:ByteArray):List ByteArray->List ByteArray->Bool
 | _,[]=>true
 | B,x :: r=>wordB x && !(x.toList == no.toList) && !(hasB B x) && apartB no (B ++ [x]) r
def rgtM (m:Md):Bool:=wordB m.nm && decide (m.im.length<=4) && apartB m.nm [] m.im && decide (m.ru.length<=24) && (!m.wet || rightX 53 m.wa) && m.ru.all (fun r=>rightX 53 r.2) && apartB ⟨#[]⟩ [] (m.ru.map (·.1))
def hdE (ML:List Md) (i:Nat) (m:Md):Option Ft3 :=
 if 4<=i then some (3,(i:Int),-1) else if rgtM m=false then some (1,(i:Int),-1) else if findN ML m.nm=(i:Int) then none else some (4,(i:Int),-1)
def fstL:List Md->Nat->List Nat
 | [],_=>[]
 | m :: r,s=>s :: fstL r (s + m.ru.length)
def hd1 (ML:List Md):List Md->Nat->Nat->Option Ft3->Option Ft3
 | [],_,_,F=>F
 | m :: r,i,s,F=>hd1 ML r (i + 1) (s + m.ru.length) (orF (orF F (hdE ML i m)) (if 24 < s + m.ru.length then some (3,(i:Int),-1) else none))
def imF (ML:List Md) (i:Nat):List ByteArray->Option Ft3->Option Ft3
 | [],F=>F
 | x :: r,F=>imF ML i r (if findN ML x < 0 then orF F (some (5,(i:Int),-1)) else F)
def hd2 (ML:List Md):List Md->Nat->Option Ft3->Option Ft3
 | [],_,F=>F
 | m :: r,i,F=>hd2 ML r (i + 1) (imF ML i m.im F)
def ruF (P:Int->Ex->List Nj->Pt) (mod:Nat):List (ByteArray × Ex)->Nat->List Nj->List Hj->List Nj × Option Ft3 × List Hj
 | [],_,N,H=>(N,none,H)
 | r :: rs,k,N,H=>match P (k:Int) r.2 N with
  | (N',none,n)=>ruF P mod rs (k + 1) N' (H ++ [⟨mod,r.1,n⟩])
  | (N',some f,n)=>(N',some f,H ++ [⟨mod,r.1,n⟩])
structure Sj where
 ms:List ByteArray
 ns:List Nj
 hs:List Hj
 ws:List Int
def waF (P:Int->Ex->List Nj->Pt) (m:Md) (N:List Nj):List Nj × Option Ft3 × Int :=
 if m.wet=true then (match P (-1) m.wa N with | (N',f,n)=>(N',f,(n:Int))) else (N,none,-1)
def mdF (P:Nat->Int->Ex->List Nj->Pt):List Md->Nat->Sj->Sj × Option Ft3
 | [],_,s=>(s,none)
 | m :: r,i,s=>match waF (P i) m s.ns with
  | (N1,some f,wt)=>(⟨s.ms ++ [m.nm],N1,s.hs,s.ws ++ [wt]⟩,some f)
  | (N1,none,wt)=>match ruF (P i) i m.ru 0 N1 s.hs with
   | (N2,some f,H)=>(⟨s.ms ++ [m.nm],N2,H,s.ws ++ [wt]⟩,some f)
   | (N2,none,H)=>mdF P r (i + 1) ⟨s.ms ++ [m.nm],N2,H,s.ws ++ [wt]⟩
def startO (ML:List Md) (F:List Nat) (s:ByteArray):Option Int :=
 if splitB s=true then
  (if (splitM s).toList=[] then (match resO ML 0 s with
   | (m,r,true)=>some ((F.getD m.toNat 0:Nat) + r)
   | (_,_,false)=>none)
  else if 0<=findN ML (splitM s) then
   (if 0<=ruleAt ML (findN ML (splitM s)) (splitR s) then some ((F.getD (findN ML (splitM s)).toNat 0:Nat) + ruleAt ML (findN ML (splitM s)) (splitR s)) else none)
  else none)
 else none
def hdO (ML:List Md):Option Ft3:=hd2 ML ML 0 (hd1 ML ML 0 0 none)
def mdO (ML:List Md):Sj × Option Ft3:=mdF (fun i k=>putN ML (fstL ML 0) i k 53) ML 0 ⟨[],[],[],[]⟩
def joinO (ML:List Md) (s:ByteArray):Except Ft3 Gj:=match hdO ML with
 | some f=>.error f
 | none=>match mdO ML with
  | (_,some f)=>.error f
  | (g,none)=>match startO ML (fstL ML 0) s with
   | none=>.error (5,-1,-1)
   | some st=>.ok ⟨g.ms,g.ns,g.hs,g.ws,st⟩
def miniG:Gj:=match joinO miniM ⟨#[109,97,105,110]⟩ with | .ok g=>g | .error _=>⟨[],[],[],[],0⟩
def HasKn (w:World) (R:Nat->Prop) (ao:Option Addr) (L:List Nat):Prop:=∀ (k x:Nat),L[k]?=some x->∃ b off,ao=some ⟨b,off,none⟩/\b < w.heap.size/\R b/\w.cell? ⟨b,off + k,none⟩=some (.int .i64 (x:Int))
theorem HasKn.but {S R:Nat->Prop} {w w':World} {ao:Option Addr} {L:List Nat} (h:HasKn w R ao L) (hb:But S w w') (hS:∀ j,j < w.heap.size->R j->¬ S j):HasKn w' R ao L:=fun k x hx=>by obtain ⟨b,off,e,hlt,hr,c⟩:=h k x hx;exact ⟨b,off,e,aL hlt hb.size,hr,hb.cell (hS b hlt hr) c⟩
theorem HasKn.mono {R T:Nat->Prop} {w:World} {ao:Option Addr} {L:List Nat} (h:HasKn w R ao L) (hR:∀ b,b < w.heap.size->R b->T b):HasKn w T ao L:=fun k x hx=>by obtain ⟨b,off,e,hlt,hr,c⟩:=h k x hx;exact ⟨b,off,e,hlt,hR b hlt hr,c⟩
theorem HasKn.nil (w:World) (R:Nat->Prop) (ao:Option Addr):HasKn w R ao []:=fun k x h=>by simp at h
def knrow (L:List Nat):List Value:=L.map (fun x:Nat=>Value.int .i64 (x:Int))
theorem hasKn_of {S:Nat->Prop} {w:World} {ao:Option Addr} {n c:Nat} {L:List Nat} (h:Win S 3 1 w (.slice ao n c) n (knrow L)):HasKn w S ao L:=fun k x hx=>by
 have hk:k < L.length:=(aS.1 hx).1;have hn:L.length=n:=by have:=h.1;simpa [knrow] using this
 obtain ⟨ao',cap,e1,h1,h2,hf⟩:=h.form;injection e1 with e1 e2 e3;subst e1;obtain ⟨g,off,e,hs,hg,hc,_⟩:=hf k (by omega);exact ⟨g,off,e,hg,hs,by rw [hc,knrow,List.getElem?_map,hx];rfl⟩
structure Zj where
 n:Nj
 ko:Option Addr
 kc:Nat
def njcells (n:Nj) (ks:Value):List Value:=[.int .i64 n.op,.string n.tx,.int .u64 n.s0,.int .u64 n.s1,.int .u64 n.s2,.int .u64 n.s3,ks,.int .i64 n.tg,.int .i64 (n.mo:Int),.int .i64 n.ru]
def HasKz (w:World) (R:Nat->Prop) (z:Zj):Prop:=HasKn w R z.ko z.n.ks/\z.n.ks.length<=z.kc
theorem HasKz.but {S R:Nat->Prop} {w w':World} {z:Zj} (h:HasKz w R z) (hb:But S w w') (hS:∀ j,j < w.heap.size->R j->¬ S j):HasKz w' R z:=⟨h.1.but hb hS,h.2⟩
theorem HasKz.mono {R T:Nat->Prop} {w:World} {z:Zj} (h:HasKz w R z) (hR:∀ b,b < w.heap.size->R b->T b):HasKz w T z:=⟨h.1.mono hR,h.2⟩
def njrow (z:Zj):List Value:=njcells z.n (.slice z.ko z.n.ks.length z.kc)
theorem njrow_at:∀ (Z:List Zj) (k j:Nat) (z:Zj),Z[k]?=some z->j < 10->(Z.flatMap njrow)[k * 10 + j]?=(njrow z)[j]?
 | [],k,j,z,hk,hj=>by simp at hk
 | x :: L,0,j,z,hk,hj=>by simp at hk;subst hk;rw [List.flatMap_cons,List.getElem?_append_left (by show 0 * 10 + j < 10;omega),Nat.zero_mul,Nat.zero_add]
 | x :: L,k + 1,j,z,hk,hj=>by rw [List.flatMap_cons,List.getElem?_append_right (by show 10<=(k + 1) * 10 + j;omega),show (k + 1) * 10 + j - (njrow x).length=k * 10 + j by show (k + 1) * 10 + j - 10=_;omega];exact njrow_at L k j z (by simpa using hk) hj
def setZ (Z:List Zj) (n:Nat) (ks:List Nat) (ko:Option Addr) (kc:Nat):List Zj:=Z.modify n (fun z=>⟨{ z.n with ks:=ks },ko,kc⟩)
theorem setZ_len (Z:List Zj) (n:Nat) (ks:List Nat) (ko:Option Addr) (kc:Nat):(setZ Z n ks ko kc).length=Z.length:=by unfold setZ;simp
theorem setZ_map:∀ (Z:List Zj) (n:Nat) (ks:List Nat) (ko:Option Addr) (kc:Nat),(setZ Z n ks ko kc).map (·.n)=setK (Z.map (·.n)) n ks
 | [],n,ks,ko,kc=>by unfold setZ setK;simp
 | z :: Z,0,ks,ko,kc=>by unfold setZ setK;simp
 | z :: Z,n + 1,ks,ko,kc=>by have ih:=setZ_map Z n ks ko kc;unfold setZ setK at ih ⊢;simp only [List.modify_succ_cons,List.map_cons,ih]
theorem setZ_row:∀ (Z:List Zj) (n:Nat) (ks:List Nat) (ko:Option Addr) (kc:Nat),n < Z.length->(setZ Z n ks ko kc).flatMap njrow=(Z.flatMap njrow).set (n * 10 + 6) (.slice ko ks.length kc)
 | [],n,ks,ko,kc,h=>by simp at h
 | z :: Z,0,ks,ko,kc,h=>by unfold setZ;simp only [List.modify_zero_cons,List.flatMap_cons];rfl
 | z :: Z,n + 1,ks,ko,kc,h=>by
  have ih:=setZ_row Z n ks ko kc (by simpa using h);unfold setZ at ih ⊢;simp only [List.modify_succ_cons,List.flatMap_cons,ih];rw [List.set_append_right _ _ (by show 10<=(n + 1) * 10 + 6;omega)]
  congr 2
  show n * 10 + 6=(n + 1) * 10 + 6 - 10;omega
theorem setZ_mem {Z:List Zj} {n:Nat} {ks:List Nat} {ko:Option Addr} {kc:Nat} {z:Zj} (h:z ∈ setZ Z n ks ko kc):z ∈ Z\/(z.ko=ko/\z.n.ks=ks/\z.kc=kc):=by
 unfold setZ at h;obtain ⟨k,hk⟩:=List.mem_iff_getElem?.1 h;rw [List.getElem?_modify] at hk
 cases hz:Z[k]? with
 | none=>rw [hz] at hk;simp at hk
 | some y =>
  rw [hz] at hk;by_cases e:n=k
  · subst e;simp at hk;subst hk;exact .inr ⟨rfl,rfl,rfl⟩
  · simp [e] at hk;subst hk;exact .inl (aM hz)
def hjrow (h:Hj):List Value:=[.int .i64 (h.mo:Int),.string h.nm,.int .i64 (h.bo:Int)]
theorem hjrow_at:∀ (Z:List Hj) (k j:Nat) (z:Hj),Z[k]?=some z->j < 3->(Z.flatMap hjrow)[k * 3 + j]?=(hjrow z)[j]?
 | [],k,j,z,hk,hj=>by simp at hk
 | x :: L,0,j,z,hk,hj=>by simp at hk;subst hk;rw [List.flatMap_cons,List.getElem?_append_left (by show 0 * 3 + j < 3;omega),Nat.zero_mul,Nat.zero_add]
 | x :: L,k + 1,j,z,hk,hj=>by rw [List.flatMap_cons,List.getElem?_append_right (by show 3<=(k + 1) * 3 + j;omega),show (k + 1) * 3 + j - (hjrow x).length=k * 3 + j by show (k + 1) * 3 + j - 3=_;omega];exact hjrow_at L k j z (by simpa using hk) hj
def tyJ:Nat->TypeId
 | 1=>9
 | 2=>44
 | 3=>46
 | _=>3
def szJ:Nat->Nat
 | 2=>10
 | 3=>3
 | _=>1
def upd {α:Type} (f:Nat->α) (i:Nat) (a:α):Nat->α:=fun j=>if j=i then a else f j
theorem upd_same {α:Type} (f:Nat->α) (i:Nat) (a:α):upd f i a i=a:=if_pos rfl
theorem upd_far {α:Type} (f:Nat->α) {i j:Nat} (a:α) (h:j ≠ i):upd f i a j=f j:=if_neg h
def e3:Option Ft3->Int
 | none=>0
 | some f=>f.1
def m3:Option Ft3->Int
 | none=>0
 | some f=>f.2.1
def r3:Option Ft3->Int
 | none=>0
 | some f=>f.2.2
abbrev Rw:=Nat->Nat × List Value
def wkcells (lv:Value) (v:Nat->Value) (st:Int) (F:Option Ft3):List Value:=[lv,v 1,v 2,v 3,v 4,.int .i64 st,v 5,.int .i64 (e3 F),.int .i64 0,.int .i64 (m3 F),.int .i64 (r3 F)]
def ceJ:Nat->Nat
 | 5=>6
 | i=>i
structure Wk (w0 w:World) (g:Nat) (c:Nat->Nat) (rows:Rw) (v:Nat->Value) (lv:Value) (st:Int) (F:Option Ft3):Prop where
 bl:Below w0.heap.size w0 w
 gd:w0.heap.size<=g
 cg:c g=9
 dom:∀ b,c b ≠ 0->w0.heap.size<=b/\b < w.heap.size
 own:Own w g 80 (wkcells lv v st F)
 win:∀ i,1<=i->i<=5->Win (fun b=>c b=i) (tyJ i) (szJ i) w (v i) (rows i).1 (rows i).2
 nz:∀ f,F=some f->f.1 ≠ 0
section
variable {w0 w w' w3 wq:World} {g:Nat} {c c':Nat->Nat} {rows rows':Rw} {v:Nat->Value} {lv:Value} {st:Int} {F:Option Ft3}
theorem Wk.below (h:Wk w0 w g c rows v lv st F) (hb:Below w.heap.size w w'):Wk w0 w' g c rows v lv st F :=
 ⟨h.bl.trans (hb.mono h.bl.size),h.gd,h.cg,fun b hc=>⟨(h.dom b hc).1,aL (h.dom b hc).2 hb.size⟩,h.own.under hb h.own.lt,fun i h1 h2=>(h.win i h1 h2).below hb,h.nz⟩
theorem Wk.rows_eq (h:Wk w0 w g c rows v lv st F) (he:∀ i,1<=i->i<=5->rows i=rows' i):Wk w0 w g c rows' v lv st F :=
 ⟨h.bl,h.gd,h.cg,h.dom,h.own,fun i h1 h2=>by rw [<- he i h1 h2];exact h.win i h1 h2,h.nz⟩
def Agree (w:World) (c c':Nat->Nat):Prop:=∀ b,b < w.heap.size->c' b=c b
theorem Agree.refl (w:World) (c:Nat->Nat):Agree w c c:=fun _ _=>rfl
theorem Agree.trans {c1 c2:Nat->Nat} (h:Agree w c c1) (k:Agree w' c1 c2) (hs:w.heap.size<=w'.heap.size):Agree w c c2:=fun b hb=>(k b (aL hb hs)).trans (h b hb)
def newC (c:Nat->Nat) (wq w3:World) (i:Nat):Nat->Nat:=fun b=>if wq.heap.size<=b/\b < w3.heap.size then i else c b
theorem Wk.grown (h:Wk w0 w g c rows v lv st F) (hq:Below w.heap.size w wq) {i:Nat} (h1:1<=i) (h5:i<=5) {v':Value} {m:Nat} {news:List Value}
  (hw:Win (fun b=>c b=i\/wq.heap.size<=b) (tyJ i) (szJ i) w3 v' ((rows i).1 + m) ((rows i).2 ++ news)) (hb:But (fun b=>c b=i) wq w3) :
  Wk w0 (w3.setCell ⟨g,ceJ i,none⟩ v') g (newC c wq w3 i) (upd rows i ((rows i).1 + m,(rows i).2 ++ news)) (upd v i v') lv st F/\But (fun b=>b=g\/c b=i) w (w3.setCell ⟨g,ceJ i,none⟩ v')/\Agree w c (newC c wq w3 i):=by
 have hq':=h.below hq;have hi9:i ≠ 9:=by omega
 have hg:¬ c g=i:=by rw [h.cg];exact fun e=>hi9 e.symm
 have hlt:=hq'.own.lt;have hne:∀ b,wq.heap.size<=b->c b=0:=fun b hb=>by
  by_cases e:c b=0
  · exact e
  · have:=(hq'.dom b e).2;omega
 have hold:∀ b,b < wq.heap.size->newC c wq w3 i b=c b:=fun b hb=>if_neg (by omega)
 have hbut:But (fun b=>b=g\/c b=i) wq (w3.setCell ⟨g,ceJ i,none⟩ v') :=
  (hb.mono (T:=fun b=>b=g\/c b=i) fun b _ h=>.inr h).setCell (p:=⟨g,ceJ i,none⟩) (fun _=>.inl rfl) _
 refine ⟨⟨?_,h.gd,?_,?_,?_,?_,h.nz⟩,(But.of_below hq).trans hbut (fun b _ hb=>hb),fun b hb=>hold b (aL hb hq.size)⟩
 ·
  refine (hq'.bl).trans (hbut.below hq'.bl.size ?_);rintro b (rfl | hb)
  · exact h.gd
  · exact (h.dom b (by omega)).1
 · rw [hold g hlt];exact h.cg
 ·
  intro b hb';have hs:=hb.size;have hs2:=hq'.bl.size;rw [show (w3.setCell ⟨g,ceJ i,none⟩ v').heap.size=w3.heap.size by simp [World.setCell]];unfold newC at hb';split at hb'
  · omega
  · have:=hq'.dom b hb';omega
 ·
  have ho:=(hq'.own.but hb hg).put (ceJ i) v';obtain rfl | rfl | rfl | rfl | rfl:i=1\/i=2\/i=3\/i=4\/i=5:=by omega
  all_goals exact ho
 ·
  intro k k1 k5;by_cases e:k=i
  ·
   subst e;rw [upd_same,upd_same];refine (hw.mono (T:=fun b=>newC c wq w3 k b=k) fun b hb' hc=>?_).keep (T:=fun b=>b=g) (But.put w3 g (ceJ k) v') (fun b _ hb'=>?_)
   ·
    rcases hc with hc | hc
    ·
     by_cases hlt2:b < wq.heap.size
     · rw [hold b hlt2];exact hc
     · exact if_pos ⟨by omega,hb'⟩
    · exact if_pos ⟨hc,hb'⟩
   · rintro rfl;rw [hold b hlt,h.cg] at hb';omega
  ·
   rw [upd_far _ _ e,upd_far _ _ e];have hk:=hq'.win k k1 k5;refine ((hk.keep hb fun b _ hbk hbi=>e (hbk.symm.trans hbi)).mono (T:=fun b=>newC c wq w3 i b=k) fun b hb' hc=>?_).keep (T:=fun b=>b=g) (But.put w3 g (ceJ i) v') (fun b _ hb'=>?_)
   ·
    by_cases hlt2:b < wq.heap.size
    · rw [hold b hlt2];exact hc
    · rw [hne b (by omega)] at hc;omega
   · rintro rfl;rw [hold b hlt,h.cg] at hb';omega
theorem Wk.turn {st':Int} {F':Option Ft3} (h:Wk w0 w g c rows v lv st F) (hb:But (fun b=>b=g) w w') (ho:Own w' g 80 (wkcells lv v st' F')) (hn:∀ f,F'=some f->f.1 ≠ 0):Wk w0 w' g c rows v lv st' F':=by refine ⟨h.bl.trans (hb.below h.bl.size fun b e=>e ▸ h.gd),h.gd,h.cg,fun b hc=>⟨(h.dom b hc).1,aL (h.dom b hc).2 hb.size⟩,ho,fun i h1 h2=>(h.win i h1 h2).keep hb fun b _ hc e=>?_,hn⟩;have e:b=g:=e;rw [e,h.cg] at hc;omega
theorem Wk.fault (h:Wk w0 w g c rows v lv st none) (f:Ft3) (hf:f.1 ≠ 0) :
  Wk w0 ((((w.setCell ⟨g,7,none⟩ (.int .i64 f.1)).setCell ⟨g,8,none⟩ (.int .i64 0)).setCell ⟨g,9,none⟩ (.int .i64 f.2.1)).setCell ⟨g,10,none⟩ (.int .i64 f.2.2)) g c rows v lv st (some f) ∧
  But (fun b=>b=g) w ((((w.setCell ⟨g,7,none⟩ (.int .i64 f.1)).setCell ⟨g,8,none⟩ (.int .i64 0)).setCell ⟨g,9,none⟩ (.int .i64 f.2.1)).setCell ⟨g,10,none⟩ (.int .i64 f.2.2)):=by
 have hb:But (fun b=>b=g) w ((((w.setCell ⟨g,7,none⟩ (.int .i64 f.1)).setCell ⟨g,8,none⟩ (.int .i64 0)).setCell ⟨g,9,none⟩ (.int .i64 f.2.1)).setCell ⟨g,10,none⟩ (.int .i64 f.2.2)) :=
  ((((But.refl (fun j=>j=g) w).setCell (p:=⟨g,7,none⟩) (fun _=>rfl) _).setCell (p:=⟨g,8,none⟩) (fun _=>rfl) _).setCell (p:=⟨g,9,none⟩) (fun _=>rfl) _).setCell (p:=⟨g,10,none⟩) (fun _=>rfl) _
 exact ⟨h.turn hb ((((h.own.put 7 _).put 8 _).put 9 _).put 10 _) (fun f' e=>by cases e;exact hf),hb⟩
theorem Wk.setrow (h:Wk w0 w g c rows v lv st F) {i b off cap j:Nat} (h1:1<=i) (h5:i<=5) (hv:v i=.slice (some ⟨b,off,none⟩) (rows i).1 cap) (u:Value) (hj:j < (rows i).1 * szJ i) :
  Wk w0 (w.setCell ⟨b,off + j,none⟩ u) g c (upd rows i ((rows i).1,(rows i).2.set j u)) v lv st F/\But (fun x=>c x=i) w (w.setCell ⟨b,off + j,none⟩ u):=by
 have hw:=h.win i h1 h5;rw [hv] at hw;obtain ⟨ao,cap',e1,_,_,hf⟩:=hw.form;obtain ⟨b',off',e2,hc,hlt,_⟩:=hf j hj;injection e1 with e1 _ _;subst e1;injection e2 with e2;injection e2 with e2 e3;subst e2 e3;have hbut:But (fun x=>c x=i) w (w.setCell ⟨b,off + j,none⟩ u):=(But.refl _ w).setCell (p:=⟨b,off + j,none⟩) (fun _=>hc) _;have hg:¬ c g=i:=by rw [h.cg];omega
 refine ⟨⟨h.bl.trans (hbut.below h.bl.size fun x hx=>(h.dom x (by omega)).1),h.gd,h.cg,fun x hx=>⟨(h.dom x hx).1,aL (h.dom x hx).2 hbut.size⟩,h.own.but hbut hg,fun k k1 k5=>?_,h.nz⟩,hbut⟩;by_cases e:k=i
 · subst e;rw [upd_same,hv];exact hw.set j u hj
 · rw [upd_far _ _ e];exact (h.win k k1 k5).keep hbut fun x _ hx hi=>e (hx.symm.trans hi)
theorem Wk.recol (h:Wk w0 w g c rows v lv st F) (h9:c' g=9) (hd:∀ b,c' b ≠ 0->w0.heap.size<=b/\b < w.heap.size) (hi:∀ i,1<=i->i<=5->∀ b,c b=i->c' b=i):Wk w0 w g c' rows v lv st F :=
 ⟨h.bl,h.gd,h9,hd,h.own,fun i h1 h5=>(h.win i h1 h5).mono fun b _ hb=>hi i h1 h5 b hb,h.nz⟩
end
def Jn (w0 w:World) (g:Nat) (c:Nat->Nat) (rows:Rw) (lv:Value) (st:Int) (N:List Nj) (F:Option Ft3):Prop :=
 ∃ (v:Nat->Value) (Z:List Zj),Wk w0 w g c (upd rows 2 (Z.length,Z.flatMap njrow)) v lv st F/\Z.map (·.n)=N/\∀ z ∈ Z,HasKz w (fun b=>c b=7) z
section
variable {w0 w w':World} {g:Nat} {c:Nat->Nat} {rows:Rw} {lv:Value} {st:Int} {N:List Nj} {F:Option Ft3}
theorem Jn.below (h:Jn w0 w g c rows lv st N F) (hb:Below w.heap.size w w'):Jn w0 w' g c rows lv st N F:=by obtain ⟨v,Z,h1,h2,h3⟩:=h;exact ⟨v,Z,h1.below hb,h2,fun z hz=>(h3 z hz).but (S:=fun _=>False) (But.of_below hb) fun _ _ _ h=>h⟩
end
@[go_sem 2000] theorem fbuild3 (k m n:Int) (w:World):(Instr.build 50 #[(0,.int .i64 k),(2,.int .i64 m),(3,.int .i64 n)]).run Try.prog w=.ok (.agg #[.int .i64 k,.int .i64 0,.int .i64 m,.int .i64 n]) w:=run_build w _ _ _ (by kernel_rfl)
@[go_sem 2000] theorem nbuild6 (o m r a b c d:Int) (t:ByteArray) (w:World):(Instr.build 44 #[(0,.int .i64 o),(1,.string t),(2,.agg #[.int .u64 a,.int .u64 b,.int .u64 c,.int .u64 d]),(4,.int .i64 (-1)),(5,.int .i64 m),(6,.int .i64 r)]).run Try.prog w=.ok (.agg #[.int .i64 o,.string t,.int .u64 a,.int .u64 b,.int .u64 c,.int .u64 d,.slice none 0 0,.int .i64 (-1),.int .i64 m,.int .i64 r]) w:=run_build w _ _ _ (by kernel_rfl)
@[go_sem 2000] theorem wbuild1 (ao:Option Addr) (n c:Nat) (w:World):(Instr.build 80 #[(0,.slice ao n c)]).run Try.prog w=.ok (.agg #[.slice ao n c,.slice none 0 0,.slice none 0 0,.slice none 0 0,.slice none 0 0,.int .i64 0,.slice none 0 0,.int .i64 0,.int .i64 0,.int .i64 0,.int .i64 0]) w:=run_build w _ _ _ (by kernel_rfl)
theorem info_node:(Try.prog.info? 44).map (fun i=>(i.zero,i.size,i.bytes))=some (some (.agg #[.int .i64 0,.string ⟨#[]⟩,.int .u64 0,.int .u64 0,.int .u64 0,.int .u64 0,.slice none 0 0,.int .i64 0,.int .i64 0,.int .i64 0]),10,104):=by kernel_rfl
theorem info_head:(Try.prog.info? 46).map (fun i=>(i.zero,i.size,i.bytes))=some (some (.agg #[.int .i64 0,.string ⟨#[]⟩,.int .i64 0]),3,32):=by kernel_rfl
set_option maxRecDepth 1000000 in
set_option maxHeartbeats 1600000 in
theorem jfail_any {w0 w:World} {g:Nat} {c:Nat->Nat} {rows:Rw} {v:Nat->Value} {lv:Value} {st:Int} {F:Option Ft3} (k m r:Int) (hk:k ≠ 0) (h:Wk w0 w g c rows v lv st F) :
  Calls Try.prog 55 #[.pointer (some ⟨g,0,none⟩),.int .i64 k,.int .i64 m,.int .i64 r] w fun e w'=>e=.returned (.tuple #[])/\Wk w0 w' g c rows v lv st (orF F (some (k,m,r)))/\But (fun j=>j=g) w w':=by
 have ho:Own w g 80 [lv,v 1,v 2,v 3,v 4,.int .i64 st,v 5,.int .i64 (e3 F),.int .i64 0,.int .i64 (m3 F),.int .i64 (r3 F)]:=h.own;obtain ⟨-,-,-,-,-,-,-,c7,c8,c9,cA⟩:=ho.elev;obtain ⟨-,-,-,-,-,-,-,d7,d8,d9,dA⟩:=ho.elevf;have hg:=ho.lt
 cases F with
 | some f =>
  have c7':w.cell? ⟨g,7,none⟩=some (.int .i64 f.1):=c7;have ef:(f.1 == 0)=false:=aN.2 (h.nz f rfl);have HH:=aH h;clear c7 c8 c9 cA h ho;go_enter Try.func55,Try.ntmps55;go_wp2
  first
   | (refine bodyPost_ret (results_none rfl _ _ _) rfl ?_;exact ⟨rfl,HH.o,But.refl _ _⟩)
   | (go_end0;exact ⟨rfl,HH.o,But.refl _ _⟩)
 | none =>
  have c7':w.cell? ⟨g,7,none⟩=some (.int .i64 0):=c7;have c8':w.cell? ⟨g,8,none⟩=some (.int .i64 0):=c8;have c9':w.cell? ⟨g,9,none⟩=some (.int .i64 0):=c9;have cA':w.cell? ⟨g,10,none⟩=some (.int .i64 0):=cA;have HF:=aH (h.fault (k,m,r) hk);clear c7 c8 c9 cA h ho;go_enter Try.func55,Try.ntmps55;go_wp2
  first
   | (refine bodyPost_ret (results_none rfl _ _ _) rfl ?_;exact ⟨rfl,HF.o.1,HF.o.2⟩)
   | (go_end0;exact ⟨rfl,HF.o.1,HF.o.2⟩)
end Go.Proofs.Ythddifjhoniacaa
