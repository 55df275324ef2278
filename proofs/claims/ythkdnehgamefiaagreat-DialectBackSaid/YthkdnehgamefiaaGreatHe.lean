import Derived.OwnWalk
import Derived.ArgAppend
import Derived.Laws.OwnMore
import Derived.Lib.Builder
import Derived.Lib.AppendStr
import Derived.Lib.UnsafeStr
import Derived.Laws.Externs
import Derived.Test.YthkdnehgamefiaaGreatHb
namespace Go.Proofs.YthkdnehgamefiaaGreat
set_option linter.unusedVariables false
set_option maxHeartbeats 1600000
set_option maxRecDepth 100000
set_option maxRecDepth 1000000
open Go.RowKit
structure But (S:Nat->Prop) (w w':World):Prop where
 os:w'.os=w.os
 tape:w'.tape=w.tape
 output:w'.output=w.output
 size:w.heap.size<=w'.heap.size
 block:∀ g,g < w.heap.size->¬ S g->w'.heap[g]?=w.heap[g]?
section
variable {S T:Nat->Prop} {a b c w w':World}
theorem But.refl (S:Nat->Prop) (w:World):But S w w:=⟨rfl,rfl,rfl,Nat.le_refl _,fun _ _ _=>rfl⟩
theorem But.trans (h:But S a b) (k:But T b c) (hT:∀ g,g < a.heap.size->T g->S g):But S a c :=
 ⟨k.os.trans h.os,k.tape.trans h.tape,k.output.trans h.output,Nat.le_trans h.size k.size,
  fun g hg hs=>(k.block g (aL hg h.size) (fun ht=>hs (hT g hg ht))).trans (h.block g hg hs)⟩
theorem But.of_below (h:Below w.heap.size w w'):But S w w':=⟨h.os,h.tape,h.output,h.size,fun g hg _=>h.block g hg⟩
theorem But.then_below (h:But S a b) (k:Below b.heap.size b c):But S a c:=h.trans (T:=fun _=>False) (But.of_below k) (fun _ _ h=>h.elim)
theorem But.below {B:Nat} (h:But S w w') (hB:B<=w.heap.size) (hS:∀ g,S g->B<=g):Below B w w' :=
 ⟨h.os,h.tape,h.output,h.size,fun g hg=>h.block g (by omega) (fun hs=>by have:=hS g hs;omega)⟩
theorem But.mono (h:But S w w') (hS:∀ g,g < w.heap.size->S g->T g):But T w w':=⟨h.os,h.tape,h.output,h.size,fun g hg ht=>h.block g hg (fun hs=>ht (hS g hg hs))⟩
theorem But.cell {p:Addr} {v:Value} (h:But S w w') (hp:¬ S p.block) (hc:w.cell? p=some v):w'.cell? p=some v :=
 (World.cell?_of_block (h.block p.block (World.block_lt_of_cell? w p hc) hp)).trans hc
theorem But.drew (h:But S a w):But S a w.drew:=⟨h.os,h.tape,h.output,h.size,h.block⟩
theorem But.drewN (h:But S a w) (n:Nat):But S a (w.drewN n):=⟨h.os,h.tape,h.output,h.size,h.block⟩
theorem But.alloc (h:But S a w) (o:Obj):But S a (w.alloc o):=h.then_below (bA o)
theorem But.setCell (h:But S a w) {p:Addr} (hp:p.block < a.heap.size->S p.block) (u:Value):But S a (w.setCell p u) :=
 ⟨h.os,h.tape,h.output,by simpa [World.setCell] using h.size,fun g hg hs=>(Below.heap_setCell w p u g (fun e=>hs (by rw [e] at hg ⊢;exact hp hg))).trans (h.block g hg hs)⟩
theorem But.put (w:World) (p i:Nat) (u:Value):But (fun g=>g=p) w (w.setCell ⟨p,i,none⟩ u):=(But.refl (fun g=>g=p) w).setCell (p:=⟨p,i,none⟩) (fun _=>rfl) u
theorem But.grown {row:Option Nat} (h:But S a w) (hg:w.grownBy w' row) (hr:∀ k,row=some k->k < a.heap.size->S k):But S a w' :=
 ⟨hg.os.trans h.os,hg.tape.trans h.tape,hg.output.trans h.output,Nat.le_trans h.size hg.size,
  fun g hk hs=>(hg.block g (aL hk h.size) (fun e=>hs (hr g e.symm hk))).trans (h.block g hk hs)⟩
theorem Own.but {g:Nat} {t:TypeId} {cs:List Value} (h:Own w g t cs) (hb:But S w w') (hg:¬ S g):Own w' g t cs:=(hb.block g h.lt hg).trans h
end
theorem vS (b:Nat) (t:TypeId):∀ (vs:List Value) (o:Nat) (w:World) (cur:Array Value),w.heap[b]?=some (.cells cur t (0,0)) →
  ∃ cur',(w.setCells b o vs).heap[b]?=some (.cells cur' t (0,0))/\cur'.size=cur.size ∧
   (∀ i,cur'[i]?=if o<=i/\i < o + vs.length/\i < cur.size then vs[i - o]? else cur[i]?)/\w.grownBy (w.setCells b o vs) (some b)
 | [],o,w,cur,h=>⟨cur,h,rfl,fun i=>by rw [if_neg (by simp;omega)],rfl,rfl,rfl,Nat.le_refl _,fun _ _ _=>rfl⟩
 | v :: r,o,w,cur,h=>by
  have h1:=heap_setCell_same w b o cur t v h;obtain ⟨cur',h2,hs,hi,hg⟩:=vS b t r (o + 1) (w.setCell ⟨b,o,none⟩ v) _ h1;refine ⟨cur',h2,by rw [hs];simp,fun i=>?_,hg.os,hg.tape,hg.output,Nat.le_trans (by simp [World.setCell]) hg.size,fun k hk hne=>?_⟩
  ·
   rw [hi i];simp only [Array.size_setIfInBounds,List.length_cons];by_cases c1:o + 1<=i/\i < o + 1 + r.length/\i < cur.size
   · rw [if_pos c1,if_pos (by omega),show i - o=(i - (o + 1)) + 1 by omega,List.getElem?_cons_succ]
   ·
    rw [if_neg c1,Array.getElem?_setIfInBounds];by_cases c2:i=o
    ·
     subst c2;by_cases c3:i < cur.size
     · rw [if_pos rfl,if_pos c3,if_pos (by omega)];simp
     · rw [if_pos rfl,if_neg c3,if_neg (by omega),Array.getElem?_eq_none (by omega)]
    · rw [if_neg (by omega),if_neg (by omega)]
  · have e:=hg.block k (by simpa [World.setCell] using hk) hne;exact e.trans (Below.heap_setCell w _ v k (fun e=>hne (by simp at e;rw [e])))
def Win (S:Nat->Prop) (e:TypeId) (size:Nat) (w:World) (v:Value) (n:Nat) (xs:List Value):Prop :=
 xs.length=n * size/\((v=.slice none 0 0/\n=0) ∨
  ∃ g off cap cur,v=.slice (some ⟨g,off,none⟩) n cap/\S g/\w.heap[g]?=some (.cells cur e (0,0))/\n<=cap/\cap<=maxLen/\off + cap * size<=cur.size/\(cur.toList.drop off).take (n * size)=xs)
section
variable {S T:Nat->Prop} {e:TypeId} {size:Nat} {w w':World} {v:Value} {n:Nat} {xs:List Value}
theorem Win.nil (S:Nat->Prop) (e:TypeId) (size:Nat) (w:World):Win S e size w (.slice none 0 0) 0 []:=⟨by simp,.inl ⟨rfl,rfl⟩⟩
theorem Win.of_owns {B:Nat} (h:w.ownsRow B e size v n xs) (hS:∀ g,B<=g->g < w.heap.size->S g):Win S e size w v n xs:=by
 obtain ⟨h1,h2⟩:=h;refine ⟨h1,?_⟩;rcases h2 with h2 | ⟨g,cap,cur,rfl,hg,hh,hn,hc,hs,ht⟩
 · exact .inl h2
 · exact .inr ⟨g,0,cap,cur,rfl,hS g hg (lt_of_block hh),hh,hn,hc,by omega,by simpa using ht⟩
theorem Win.mono (h:Win S e size w v n xs) (hS:∀ g,g < w.heap.size->S g->T g):Win T e size w v n xs:=by
 obtain ⟨h1,h2⟩:=h;refine ⟨h1,?_⟩;rcases h2 with h2 | ⟨g,off,cap,cur,hv,hg,hh,r⟩
 · exact .inl h2
 · exact .inr ⟨g,off,cap,cur,hv,hS g (lt_of_block hh) hg,hh,r⟩
theorem Win.keep (h:Win S e size w v n xs) (hb:But T w w') (hd:∀ g,g < w.heap.size->S g->¬ T g):Win S e size w' v n xs:=by
 obtain ⟨h1,h2⟩:=h;refine ⟨h1,?_⟩;rcases h2 with h2 | ⟨g,off,cap,cur,hv,hg,hh,r⟩
 · exact .inl h2
 · exact .inr ⟨g,off,cap,cur,hv,hg,(hb.block g (lt_of_block hh) (hd g (lt_of_block hh) hg)).trans hh,r⟩
theorem Win.below (h:Win S e size w v n xs) (hb:Below w.heap.size w w'):Win S e size w' v n xs:=h.keep (T:=fun _=>False) (But.of_below hb) (fun _ _ _ h=>h)
theorem Win.form (h:Win S e size w v n xs):∃ ao cap,v=.slice ao n cap/\n<=cap/\(ao=none->n=0/\cap=0)/\∀ j,j < n * size->∃ g off,ao=some ⟨g,off,none⟩/\S g/\g < w.heap.size/\w.cell? ⟨g,off + j,none⟩=xs[j]?/\w.frozen? ⟨g,off + j,none⟩=false:=by
 obtain ⟨h1,h2⟩:=h;rcases h2 with ⟨rfl,rfl⟩ | ⟨g,off,cap,cur,rfl,hg,hh,hn,hc,hs,rfl⟩
 · exact ⟨_,_,rfl,Nat.le_refl _,fun _=>⟨rfl,rfl⟩,fun j hj=>by omega⟩
 · refine ⟨_,_,rfl,hn,by simp,fun j hj=>⟨g,off,rfl,hg,lt_of_block hh,?_,frozen_of_row w g _ cur e hh⟩⟩;rw [cell_of_row w g _ cur e (0,0) hh,List.getElem?_take,if_pos hj,List.getElem?_drop];simp
theorem Win.set {g off cap:Nat} (h:Win S e size w (.slice (some ⟨g,off,none⟩) n cap) n xs) (j:Nat) (u:Value) (hj:j < n * size) :
  Win S e size (w.setCell ⟨g,off + j,none⟩ u) (.slice (some ⟨g,off,none⟩) n cap) n (xs.set j u):=by
 obtain ⟨h1,h2⟩:=h;refine ⟨by simpa using h1,?_⟩;rcases h2 with ⟨h,_⟩ | ⟨g',off',cap',cur,h,hg,hh,hn,hc,hs,rfl⟩
 · simp at h
 ·
  simp only [Value.slice.injEq,Option.some.injEq,Addr.mk.injEq,and_true,true_and] at h;obtain ⟨⟨rfl,rfl⟩,rfl⟩:=h;refine .inr ⟨g,off,cap,_,rfl,hg,heap_setCell_same w g (off + j) cur e u hh,hn,hc,by simpa using hs,?_⟩;rw [Array.toList_setIfInBounds,<- List.take_set]
  congr 1
  apply List.ext_getElem?;intro i;rw [List.getElem?_drop,List.getElem?_set,List.getElem?_set,List.getElem?_drop];by_cases c:j=i
  · subst c;have:(off + j < cur.size) ↔ (j < cur.size - off):=(by omega);simp [this]
  · rw [if_neg (by omega),if_neg c]
end
theorem aX {P:Program} (w:World) {ops:Array Oper} {rest:List Oper} {o:Oper} {a:Act} {Q:Exit->Act->World->Prop}
  (hg:o.guard=none) (s x:Operand) (t:TypeId) (hop:o.op=Op.call { callee:=Callee.builtin Builtin.append,args:=#[s,x],argTypes:=#[t,t] })
  (S:Nat->Prop) (e:TypeId) (i:TypeInfo) (z:Value) (size bytes:Nat) (h1:P.underlying t=some (.slice e)) (h2:P.info? e=some i) (h3:i.zero=some z) (h4:i.size=size) (h5:i.bytes=bytes) (h6:z.cells.size=size) (h7:0 < size)
  (v:Value) (n:Nat) (xs:List Value) (hs:a.eval s=v) (hown:Win S e size w v n xs)
  (ad:Addr) (m c:Nat) (news:List Value) (hx:a.eval x=.slice (some ad) m c) (hn:news.length=m * size) (hc:∀ j u,news[j]?=some u->w.cell? (ad.add j)=some u) (h1c:∀ u ∈ news,u.oneCell'=true)
  (b1:n + m<=maxLen) (b2:(n + m) * bytes<=140737488355328)
  (hK:∀ v' w',Win (fun g=>S g\/w.heap.size<=g) e size w' v' (n + m) (xs ++ news)->But S w w'->wpList P ops Q rest (a.put o.dst v') w') :
  wpList P ops Q (o :: rest) a w:=by
 obtain ⟨hl,hcase⟩:=hown;rcases hcase with ⟨rfl,rfl⟩ | ⟨g,off,cap,cur,rfl,hS,hh,hnc,hcm,hsz,ht⟩
 · refine wpList_append_own w hg s x t hop w.heap.size e i z size bytes h1 h2 h3 h4 h5 h6 h7 _ 0 xs hs ⟨hl,.inl ⟨rfl,rfl⟩⟩ ad m c news hx hn hc h1c b1 b2 (Nat.le_refl _) ?_;intro v' w' hown' hgrow _;refine hK v' w' (Win.of_owns hown' fun g hg _=>.inr hg) ((But.refl S w).grown hgrow fun k hk=>?_);simp [Value.ownBlock] at hk
 ·
  have hxs:∀ j u,xs[j]?=some u->w.cell? ⟨g,off + j,none⟩=some u:=fun j u hj=>by rw [cell_of_row w g _ cur e (0,0) hh,<- hj,<- ht,List.getElem?_take,if_pos (by have:=(aS.1 hj).1;omega),List.getElem?_drop];simp
  have hroom:n + m<=cap->off + n * size + news.length<=cur.size:=fun hr=>by have:=Nat.mul_le_mul_right size hr;rw [hn,Nat.add_assoc,<- Nat.add_mul];omega
  refine wpList_append_arg w hg s x t hop e i z size bytes h1 h2 h3 h4 h5 h6 h7 g off n cap xs hs hl hxs ad m c news hx hn hc h1c ?_ b1 b2 ?_ ?_
  · intro hr j hj;have:=hroom hr;refine ⟨?_,frozen_of_row w g _ cur e hh⟩;rw [cell_of_row w g _ cur e (0,0) hh,Array.getElem?_eq_getElem (by omega)];rfl
  ·
   intro hr;have hr2:=hroom hr;obtain ⟨cur',e1,e2,e3,e4⟩:=vS g e news (off + n * size) w cur hh;refine hK _ _ ⟨by rw [List.length_append,hl,hn,Nat.add_mul],.inr ⟨g,off,cap,cur',rfl,.inl hS,e1,hr,hcm,by omega,?_⟩⟩ ((But.refl S w).grown e4 fun k hk _=>by cases hk;exact hS);apply List.ext_getElem?;intro j;rw [List.getElem?_take,List.getElem?_drop,Array.getElem?_toList,e3];by_cases c1:j < n * size
   · rw [if_pos (by rw [Nat.add_mul];omega),if_neg (by omega),List.getElem?_append_left (by omega),<- ht,List.getElem?_take,if_pos c1,List.getElem?_drop];simp
   ·
    by_cases c2:j < (n + m) * size
    ·
     rw [if_pos c2,List.getElem?_append_right (by omega),if_pos (by rw [Nat.add_mul] at c2;omega)]
     congr 1;omega
    · rw [if_neg c2,List.getElem?_eq_none (by rw [List.length_append,hl,hn,<- Nat.add_mul];omega)]
  · intro hr v' w' hown' hgrow;exact hK v' w' (Win.of_owns hown' fun g hg _=>.inr hg) ((But.refl S w).grown hgrow fun k hk=>by cases hk)
theorem B0U:(Tryz.prog.info? 88).map (·.size)=some 2:=by kernel_rfl
theorem Xt:(Tryz.prog.info? 5).map (fun i=>(i.zero,i.size,i.bytes))=some (some (.int .u8 0),1,1):=by kernel_rfl
theorem B0q:liesAt Tryz.prog Tryz.prog.depth 88 (2 / Tryz.prog.cellsOf 88) 0 88 1=true:=by kernel_rfl
def Bld (B b:Nat) (l:List UInt8) (w:World):Prop:=Lib.IsBuilder 88 5 B b (Lib.byteCells l) w
theorem ZZ (w:World) (t:TypeId) (cs:List Value):∀ j u,cs[j]?=some u->(w.alloc (.cells cs.toArray t)).cell? ((⟨w.heap.size,0,none⟩:Addr).add j)=some u:=fun j u h=>by rw [Addr.add_lit,Nat.zero_add,(Own.fresh w t cs).cell j];exact h
theorem OJ (B b:Nat) (l:List UInt8) (w:World) (h:Bld B b l w) :
  Calls Tryz.prog 74 #[.pointer (some ⟨b,0,none⟩)] w
   fun e w'=>e=.returned (.tuple #[])/\Lib.BuilderAt 88 5 B b (.pointer (some ⟨b,0,none⟩)) (Lib.byteCells l) w'/\Below B w w':=by
 obtain ⟨j,hj,hjs⟩:=Option.map_eq_some_iff.1 B0U;rcases h with h | h
 ·
  have h0:=h.cell0;have hf:=h.frozen0;have hsh:=h.shape;have H:=aH h;clear h;go_enter Tryz.func74,Tryz.ntmps74;go_wp2;rw [Lib.run_to_unsafe w ⟨b,0,none⟩ Tryz.underlying86 Tryz.underlying139 hj (by rw [hjs];decide) hsh (Nat.zero_lt_succ 1)];simp only [Result.andThen];rw [Oper.upon_value];go_wp2;rw [run_callFunc_extern Tryz.func100 (by kernel_rfl) (by kernel_rfl) (by kernel_rfl) (e:=Extern.AbiNoEscape.same) (by kernel_rfl)];rw [Lib.run_noEscape];simp only [Result.andThen];rw [Oper.upon_value];go_wp2;rw [Lib.run_from_unsafe w ⟨b,0,none⟩ Tryz.underlying139 Tryz.underlying86 hj hsh B0q];simp only [Result.andThen];rw [Oper.upon_value];go_wp2
  go_end0
  exact ⟨rfl,H.o.used _,(Below.refl B w).setCell (p:=⟨b,0,none⟩) H.o.1 _⟩
 ·
  have h0:=h.cell0;have H:=aH h;clear h;go_enter Tryz.func74,Tryz.ntmps74;go_wp2;rw [Lib.run_neq_ptr_same w _ Tryz.underlying86 hj];go_wp2
  go_end0
  exact ⟨rfl,H.o,Below.refl _ _⟩
theorem byteCells_snoc (l:List UInt8) (c:UInt8):Lib.byteCells (l ++ [c])=Lib.byteCells l ++ [.int .u8 (c.toNat:Int)]:=by simp [Lib.byteCells]
theorem byteCells_append (l:List UInt8) (s:ByteArray):Lib.byteCells (l ++ s.data.toList)=Lib.byteCells l ++ Lib.strCells s:=by simp [Lib.byteCells,Lib.strCells]
theorem A3u {w:World} {B n:Nat} {e:TypeId} {v:Value} {xs:List Value} (h:w.ownsRow B e 1 v n xs):∀ k,v.ownBlock=some k->B<=k:=fun k hk=>by
 rcases h.2 with ⟨rfl,_⟩ | ⟨g,cap,cur,rfl,hg,_⟩
 · simp [Value.ownBlock] at hk
 · simp [Value.ownBlock] at hk;omega
theorem A1A {w:World} {B n:Nat} {e:TypeId} {v:Value} {xs:List Value} (h:w.ownsRow B e 1 v n xs):∃ ao m cap,v=.slice ao m cap:=by rcases h.2 with ⟨rfl,_⟩ | ⟨g,cap,cur,rfl,_⟩ <;> exact ⟨_,_,_,rfl⟩
theorem pQ (l:List UInt8):(Lib.byteCells l).length=l.length:=by simp [Lib.byteCells]
theorem zV (B b:Nat) (l:List UInt8) (c:UInt8) (w:World) (h:Bld B b l w) (hl:l.length<=1000000) (hB:B<=w.heap.size) :
  Calls Tryz.prog 101 #[.pointer (some ⟨b,0,none⟩),.int .u8 (c.toNat:Int)] w
   fun e w'=>e=.returned .nilIface/\Bld B b (l ++ [c]) w'/\Below B w w':=by
 obtain ⟨i0,hi,hz0,hz1,hz2⟩:=info_parts Xt;have IL:=aH (And.intro hi (And.intro hz0 (And.intro hz1 hz2)));have H:=aH h;clear hi hz0 hz1 hz2 h;obtain ⟨k,hk⟩:∃ k:Int,(c.toNat:Int)=k:=⟨_,rfl⟩;have HK:=aH hk;rw [hk];clear hk;go_enter Tryz.func101,Tryz.ntmps101;go_wp2_with fail;refine (OJ B b l _ H.o).mono ?_;rintro e w1 ⟨rfl,⟨hBb,v,hb,hown,hne⟩,hb1⟩;have hs1:=hb1.size;have c1:w1.cell? ⟨b,1,none⟩=some v:=by rw [Lib.cell_of_heap hb];rfl
 have f1:w1.frozen? ⟨b,1,none⟩=false:=Lib.frozen_of_heap hb 1;have hlt:b < w1.heap.size:=Lib.BuilderAt.lt ⟨hBb,v,hb,hown,hne⟩;have HB:=aH hb;have HO:=aH (hown.alloc (.cells #[.int .u8 k] 5));have HNE:=aH hne;have HN:=aH (ZZ w1 5 [.int .u8 k]);have HL:=aH (pQ l);have hb1':=aH hb1;clear hb hown hne hb1
 go_wp2_with (first
  | (at_builtin;refine wpList_append_own _ rfl _ _ 36 rfl B 5 i0 (.int .u8 0) 1 1 Tryz.underlying36 IL.o.1 IL.o.2.1 IL.o.2.2.1 IL.o.2.2.2 rfl (by decide) v (Lib.byteCells l).length (Lib.byteCells l) rfl HO.o ⟨w1.heap.size,0,none⟩ 1 1 [.int .u8 k] rfl rfl HN.o (by intro u hu;simp at hu;subst hu;rfl) (by rw [HL.o];unfold maxLen;omega) (by rw [HL.o];omega) (by simp;omega) ?_))
 intro v' w2 hown2 hgrow _;obtain ⟨ao',n',cap',rfl⟩:=A1A hown2;have hb2:w2.heap[b]?=some (.cells #[.pointer (some ⟨b,0,none⟩),v] 88 (0,0)):=by rw [hgrow.block b (by rw [World.size_alloc];omega) (fun e=>HNE.o e.symm)];exact (Below.heap_alloc w1 _ b hlt).trans HB.o
 have c2:w2.cell? ⟨b,1,none⟩=some v:=by rw [Lib.cell_of_heap hb2];rfl
 have f2:w2.frozen? ⟨b,1,none⟩=false:=Lib.frozen_of_heap hb2 1;have hlt2:b < w2.heap.size:=by have:=hgrow.size;rw [World.size_alloc] at this;omega
 have hbel:Below B w w2:=hb1'.o.trans ((But.grown (S:=fun g=>B<=g) ((But.refl _ w1).alloc _) hgrow (fun k hk _=>A3u HO.o k hk)).below (by omega) (fun _ h=>h));have hlen:(Lib.byteCells l).length + 1=(Lib.byteCells (l ++ [c])).length:=by rw [pQ,pQ];simp
 have hres:w2.ownsRow B 5 1 (.slice ao' n' cap') (Lib.byteCells (l ++ [c])).length (Lib.byteCells (l ++ [c])):=by rw [<- hlen,byteCells_snoc,HK.o];exact hown2
 have HR:=aH (Lib.BuilderAt.put hBb hb2 hres (by decide));have HBL:=aH hbel;clear hown2 hgrow hb2 hbel hlen hres c1 f1;go_wp2;go_ret;exact ⟨rfl,.inr HR.o,HBL.o.setCell (p:=⟨b,1,none⟩) hBb _⟩
theorem qJ (B b:Nat) (l:List UInt8) (s:ByteArray) (w:World) (h:Bld B b l w) (hl:l.length<=1000000) (hs:s.size<=1000000) (hB:B<=w.heap.size) :
  Calls Tryz.prog 43 #[.pointer (some ⟨b,0,none⟩),.string s] w
   fun e w'=>e=.returned (.tuple #[.int .i64 (s.size:Int),.nilIface])/\Bld B b (l ++ s.data.toList) w'/\Below B w w':=by
 obtain ⟨i0,hi,hz0,hz1,hz2⟩:=info_parts Xt;have IL:=aH (And.intro hi (And.intro hz0 (And.intro hz1 hz2)));have H:=aH h;clear hi hz0 hz1 hz2 h;go_enter Tryz.func43,Tryz.ntmps43;go_wp2_with fail;refine (OJ B b l _ H.o).mono ?_;rintro e w1 ⟨rfl,⟨hBb,v,hb,hown,hne⟩,hb1⟩;have hs1:=hb1.size;have c1:w1.cell? ⟨b,1,none⟩=some v:=by rw [Lib.cell_of_heap hb];rfl
 have f1:w1.frozen? ⟨b,1,none⟩=false:=Lib.frozen_of_heap hb 1;have hlt:b < w1.heap.size:=Lib.BuilderAt.lt ⟨hBb,v,hb,hown,hne⟩;have HB:=aH hb;have HO:=aH hown;have HNE:=aH hne;have HL:=aH (pQ l);have hb1':=aH hb1;clear hb hown hne hb1
 go_wp2_with (first
  | (at_builtin;refine Lib.wpList_append_own_string _ rfl _ _ 36 9 rfl B 5 i0 Tryz.underlying36 Tryz.underlying9 IL.o.1 IL.o.2.1 IL.o.2.2.1 IL.o.2.2.2 v (Lib.byteCells l).length (Lib.byteCells l) rfl HO.o s rfl (by rw [HL.o];unfold maxLen;omega) (by rw [HL.o];omega) (by omega) ?_))
 intro v' w2 hown2 hgrow _;obtain ⟨ao',n',cap',rfl⟩:=A1A hown2;have hb2:w2.heap[b]?=some (.cells #[.pointer (some ⟨b,0,none⟩),v] 88 (0,0)):=by rw [hgrow.block b (by omega) (fun e=>HNE.o e.symm)];exact HB.o
 have c2:w2.cell? ⟨b,1,none⟩=some v:=by rw [Lib.cell_of_heap hb2];rfl
 have f2:w2.frozen? ⟨b,1,none⟩=false:=Lib.frozen_of_heap hb2 1;have hlt2:b < w2.heap.size:=by have:=hgrow.size;omega
 have hbel:Below B w w2:=hb1'.o.trans ((But.grown (S:=fun g=>B<=g) (But.refl _ w1) hgrow (fun k hk _=>A3u HO.o k hk)).below (by omega) (fun _ h=>h));have hlen:(Lib.byteCells l).length + s.size=(Lib.byteCells (l ++ s.data.toList)).length:=by rw [pQ,pQ];simp
 have hres:w2.ownsRow B 5 1 (.slice ao' n' cap') (Lib.byteCells (l ++ s.data.toList)).length (Lib.byteCells (l ++ s.data.toList)):=by rw [<- hlen,byteCells_append];exact hown2
 have HR:=aH (Lib.BuilderAt.put hBb hb2 hres (by decide));have HBL:=aH hbel;clear hown2 hgrow hb2 hbel hlen hres c1 f1;go_wp2
 go_ret2
 exact ⟨rfl,.inr HR.o,HBL.o.setCell (p:=⟨b,1,none⟩) hBb _⟩
theorem Zt (B b:Nat) (l:List UInt8) (w:World) (h:Bld B b l w) (hB:B<=w.heap.size) :
  Calls Tryz.prog 45 #[.pointer (some ⟨b,0,none⟩)] w fun e w'=>e=.returned (.string ⟨l.toArray⟩)/\Below B w w':=Tryz.Builder_String_any B b l w h hB
theorem A5G (w:World):Bld w.heap.size w.heap.size [] (w.alloc (.cells #[.pointer none,.slice none 0 0] 88)):=Lib.fresh_isBuilder _ _ w
theorem own_below {w w':World} {B n:Nat} {e:TypeId} {v:Value} {xs:List Value} (h:w.ownsRow B e 1 v n xs) (hb:Below w.heap.size w w'):w'.ownsRow B e 1 v n xs:=by
 refine ⟨h.1,?_⟩;rcases h.2 with h0 | ⟨g,cap,cur,e1,hg,hh,r⟩
 · exact .inl h0
 · exact .inr ⟨g,cap,cur,e1,hg,(hb.block g (lt_of_block hh)).trans hh,r⟩
theorem Bld.below {B b:Nat} {l:List UInt8} {w w':World} (h:Bld B b l w) (hb:Below w.heap.size w w'):Bld B b l w':=by
 have key:∀ {p:Value},Lib.BuilderAt 88 5 B b p (Lib.byteCells l) w->Lib.BuilderAt 88 5 B b p (Lib.byteCells l) w':=fun h=>by obtain ⟨hB,v,hh,ho,hn⟩:=h;exact ⟨hB,v,(hb.block b (lt_of_block hh)).trans hh,own_below ho hb,hn⟩
 rcases h with h | h
 · exact .inl (key h)
 · exact .inr (key h)
theorem lZ (l:List UInt8) (t:ByteArray):ofL l ++ t=ofL (l ++ t.data.toList):=by apply kT;rw [ByteArray.data_append];show (l.toArray ++ t.data).toList=(l ++ t.data.toList).toArray.toList;simp
theorem pG (l:List UInt8):(ofL l).size=l.length:=by show l.toArray.size=_;simp
theorem pM (sp:ByteArray) (c:Int):(wrS sp c).size<=4:=by
 unfold wrS;split
 · rw [strOfNums_size];simp
 ·
  split
  · decide
  ·
   split
   · decide
   ·
    split
    · rw [strOfNums_size];simp
    · rw [strOfNums_size];simp
def wrT (s:ByteArray):Nat->List UInt8
 | 0=>[34]
 | k + 1=>wrT s k ++ (wrS spT (byt s k)).data.toList
theorem Ik (s:ByteArray):∀ k,(wrT s k).length<=4 * k + 1
 | 0=>Nat.le_refl _
 | k + 1=>by
  have h1:=Ik s k;have h2:=pM spT (byt s k);have h3:(wrS spT (byt s k)).data.toList.length=(wrS spT (byt s k)).size:=by simp
  unfold wrT;rw [List.length_append];omega
def gU (s:ByteArray):ByteArray:=ofL (wrT s s.size ++ [34])
theorem mQ (s:ByteArray) (hs:s.size<=1000) (w:World):Calls Tryz.prog 75 #[.string s] w fun e w'=>e=.returned (.string (gU s))/\Below w.heap.size w w':=by
 have HN:=aH (A5G w);have HB0:=aH (show Below w.heap.size w (w.alloc (.cells #[.pointer none,.slice none 0 0] 88)) from bA _);go_enter Tryz.func75,Tryz.ntmps75;go_wp2_with fail;refine (zV w.heap.size w.heap.size [] 34 _ HN.o (by simp) HB0.o.size).mono ?_;rintro e w1 ⟨rfl,hl1,hb1⟩;have HL1:=aH (show Bld w.heap.size w.heap.size (wrT s 0) w1 from hl1);have HB1:=aH (HB0.o.trans hb1);clear HN HB0 hl1 hb1;go_wp2_with fail
 go_loopw [4] (fun b4 wr=>∃ k:Nat,b4=.int .i64 (k:Int)/\k<=s.size/\aQ (Bld w.heap.size w.heap.size (wrT s k) wr)/\aQ (Below w.heap.size w wr)) (fun b4 _=>s.size - (intOf b4).toNat)
 case atStart=>exact ⟨0,rfl,Nat.zero_le _,HL1,HB1⟩
 case round =>
  obtain ⟨k,rfl,hk,HL,HB⟩:=hrel;clear HL1 HB1;by_cases hlt:k < s.size
  ·
   obtain ⟨x,hx⟩:∃ x:Int,(s[k].toNat:Int)=x:=⟨_,rfl⟩;have HX:=aH (show byt s k=x by rw [dI hlt,hx]);have hx0:=tX s k;rw [HX.o] at hx0;obtain ⟨hx0,hx1⟩:=hx0;have HT:=aH (show wrT s (k + 1)=wrT s k ++ (wrS spT x).data.toList by show wrT s k ++ (wrS spT (byt s k)).data.toList=_;rw [HX.o]);have HLEN:=aH (Ik s k);have HSZ:=aH (pM spT x);go_wp2_with fail;refine (yO spT x hx0 hx1 _).mono ?_;rintro e w2 ⟨rfl,hb2⟩;have HL2:=aH (HL.o.below hb2);have HB2:=aH (aD HB.o hb2);clear hb2 HL HB;generalize wrS spT x=t at *;go_wp2_with fail;refine (qJ w.heap.size w.heap.size (wrT s k) t _ HL2.o (by have:=HLEN.o;omega) (by have:=HSZ.o;omega) HB2.o.size).mono ?_;rintro e w3 ⟨rfl,hl3,hb3⟩;have HL3:=aH (show Bld w.heap.size w.heap.size (wrT s (k + 1)) w3 by rw [HT.o];exact hl3);have HB3:=aH (HB2.o.trans hb3);clear hl3 hb3 HL2 HB2;go_wp2
   go_roundw
   case rel=>exact ⟨k + 1,by go_num,by omega,HL3,HB3⟩
   case measure=>simp [intOf];omega
  · obtain rfl:k=s.size:=(by omega);have HLEN:=aH (Ik s s.size);go_wp2_with fail;refine (zV w.heap.size w.heap.size (wrT s s.size) 34 _ HL.o (by have:=HLEN.o;omega) HB.o.size).mono ?_;rintro e w2 ⟨rfl,hl2,hb2⟩;have HL2:=aH hl2;have HB2:=aH (HB.o.trans hb2);clear hl2 hb2 HL HB;go_wp2_with fail;refine (Zt w.heap.size w.heap.size (wrT s s.size ++ [34]) _ HL2.o HB2.o.size).mono ?_;rintro e w3 ⟨rfl,hb3⟩;go_wp2;go_ret;exact ⟨rfl,HB2.o.trans hb3⟩
end Go.Proofs.YthkdnehgamefiaaGreat
