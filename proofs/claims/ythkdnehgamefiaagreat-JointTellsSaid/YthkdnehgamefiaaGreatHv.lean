import Derived.Deep.AppendSrc
import Derived.Test.YthkdnehgamefiaaGreatHq
namespace Go.Proofs.YthkdnehgamefiaaGreat
set_option linter.unusedVariables false
open Go.RowKit
theorem rE {P:Program} (w:World) (t tx ty:TypeId)
  (S:Nat->Prop) (e:TypeId) (i:TypeInfo) (z:Value) (size bytes:Nat) (h1:P.underlying t=some (.slice e)) (h2:P.info? e=some i) (h3:i.zero=some z) (h4:i.size=size) (h5:i.bytes=bytes) (h6:z.cells.size=size) (h7:0 < size)
  (v:Value) (n:Nat) (xs:List Value) (hown:Win S e size w v n xs)
  (x:Value) (m:Nat) (news:List Value) (hs:Src P size tx x m news w)
  (b1:n + m<=maxLen) (b2:(n + m) * bytes<=140737488355328) :
  ∃ v' w',(Builtin.append_ #[t,tx] ty #[v,x]).run P w=.ok v' w'/\Win (fun g=>S g\/w.heap.size<=g) e size w' v' (n + m) (xs ++ news)/\But S w w':=by
 subst h4;subst h5;obtain ⟨hl,hcase⟩:=hown;have hn:=hs.newsLen;have hsmall:n + m<=9223372036854775807:=by simp only [maxLen] at b1;omega
 have hlen:(xs ++ news).length=(n + m) * i.size:=by rw [List.length_append,hl,hn,Nat.add_mul]
 have grow:∀ (base:Option Addr) (cap:Nat),(Builtin.firstCells i.size n (.slice base n cap)).run P w.drew=.ok xs.toArray w.drew->cap < n + m →
   ∃ v' w',(Builtin.append_ #[t,tx] ty #[.slice base n cap,x]).run P w=.ok v' w'/\Win (fun g=>S g\/w.heap.size<=g) e i.size w' v' (n + m) (xs ++ news)/\But S w w':=by
  intro base cap hold hg;have hge:=grownCap_ge w (n + m) cap e;have hcm:grownCap w (n + m) cap e<=maxLen:=grownCap_le_maxLen w (n + m) cap e b1;have hr:=run_append_grow_src (P:=P) w t tx ty e i z h1 h2 h3 base n cap xs hold x m news hs hg (by omega) (growslice_fits hg b2);refine ⟨_,_,hr,⟨hlen,.inr ⟨w.heap.size,0,_,_,rfl,.inr (Nat.le_refl _),heap_alloc_new w.drew _,hge,hcm,?_,?_⟩⟩,((But.refl S w).drew).alloc _⟩
  · simp only [Array.size_append,List.size_toArray,size_zeroCells,h6,hl,hn,List.length_append,<- Nat.add_mul];rw [Nat.zero_add];exact Nat.mul_le_mul_right _ (by omega)
  · simp only [Array.toList_append,List.append_assoc,List.drop_zero];rw [<- List.append_assoc,<- hlen];exact List.take_left
 rcases hcase with ⟨rfl,rfl⟩ | ⟨g,off,cap,cur,rfl,hS,hh,hnc,hcm,hsz,ht⟩
 ·
  have hx0:xs=[]:=List.eq_nil_of_length_eq_zero (by omega);subst hx0;by_cases hm:m=0
  · subst hm;have hnews:news=[]:=List.eq_nil_of_length_eq_zero (by omega);subst hnews;refine ⟨.slice none 0 0,w,?_,⟨by simp,.inl ⟨rfl,rfl⟩⟩,But.refl S w⟩;rcases hs.kind with ⟨e',hk⟩ | hk <;> simp [Builtin.append_,run_underlying h1,run_underlying hk,sizeOf,typeInfo,h2,hs.len,hs.cells]
  · exact grow none 0 (run_firstCells_none w.drew i.size 0 0 0) (by omega)
 ·
  have hxs:∀ j u,xs[j]?=some u->w.cell? ⟨g,off + j,none⟩=some u:=fun j u hj=>by rw [cell_of_row w g _ cur e (0,0) hh,<- hj,<- ht,List.getElem?_take,if_pos (by have:=(aS.1 hj).1;omega),List.getElem?_drop];simp
  by_cases hr:n + m<=cap
  ·
   have hr2:off + n * i.size + news.length<=cur.size:=by have:=Nat.mul_le_mul_right i.size hr;rw [hn,Nat.add_assoc,<- Nat.add_mul];omega
   have hrun:=run_append_room_src (P:=P) w t tx ty e i h1 h2 g off n cap x m news hs hr
    (fun j hj=>by rw [cell_of_row w g _ cur e (0,0) hh,Array.getElem?_eq_getElem (by omega)];rfl) (fun j hj=>frozen_of_row w g _ cur e hh)
   obtain ⟨cur',e1,e2,e3,e4⟩:=vS g e news (off + n * i.size) w cur hh;refine ⟨_,_,hrun,⟨hlen,.inr ⟨g,off,cap,cur',rfl,.inl hS,e1,hr,hcm,by omega,?_⟩⟩,(But.refl S w).grown e4 fun k hk _=>by cases hk;exact hS⟩;apply List.ext_getElem?;intro j;rw [List.getElem?_take,List.getElem?_drop,Array.getElem?_toList,e3];by_cases c1:j < n * i.size
   · rw [if_pos (by rw [Nat.add_mul];omega),if_neg (by omega),List.getElem?_append_left (by omega),<- ht,List.getElem?_take,if_pos c1,List.getElem?_drop];simp
   ·
    by_cases c2:j < (n + m) * i.size
    ·
     rw [if_pos c2,List.getElem?_append_right (by omega),if_pos (by rw [Nat.add_mul] at c2;omega)]
     congr 1;omega
    · rw [if_neg c2,List.getElem?_eq_none (by rw [hlen];omega)]
  · exact grow (some ⟨g,off,none⟩) cap (run_firstCells_some w.drew i.size n ⟨g,off,none⟩ n cap xs hl (fun j u hj=>by rw [Addr.add_lit];simpa using hxs j u hj)) (by omega)
section
variable {P:Program} {ops:Array Oper} {Q:Exit->Act->World->Prop}
theorem Bh {i':Nat} {o:Oper} {a:Act} {w:World} {K:Act->World->Prop} (ei:ops[i']?=some o) (hg:Region.wanted o (yielded ops a.tmps)=true) (s x:Operand) (t tx:TypeId)
  (hop:o.op=Op.call { callee:=Callee.builtin Builtin.append,args:=#[s,x],argTypes:=#[t,tx] })
  (S:Nat->Prop) (e:TypeId) (i:TypeInfo) (z:Value) (size bytes:Nat) (h1:P.underlying t=some (.slice e)) (h2:P.info? e=some i) (h3:i.zero=some z) (h4:i.size=size) (h5:i.bytes=bytes) (h6:z.cells.size=size) (h7:0 < size)
  (v:Value) (n:Nat) (xs:List Value) (hs:a.eval s=v) (hown:Win S e size w v n xs)
  (u:Value) (m:Nat) (news:List Value) (hx:a.eval x=u) (hsrc:Src P size tx u m news w)
  (b1:n + m<=maxLen) (b2:(n + m) * bytes<=140737488355328)
  (hK:∀ v' w',Win (fun g=>S g\/w.heap.size<=g) e size w' v' (n + m) (xs ++ news)->But S w w'->K (a.put o.dst v') w'):wpOp P ops Q i' K a w:=by
 unfold wpOp;rw [ei];simp only [];rw [if_pos hg];obtain ⟨v',w',hrun,r1,r2⟩:=rE (P:=P) w t tx o.type S e i z size bytes h1 h2 h3 h4 h5 h6 h7 v n xs hown u m news hsrc b1 b2;left;unfold Oper.wp;simp [execOp,hop,resolve,invoke,builtin,hs,hx,hrun,Result.andThen];exact hK v' w' r1 r2
end
theorem Win.one {w:World} {B:Nat} {e:TypeId} {size:Nat} {cs:List Value} (h:Own w B e cs) (hl:cs.length=size):Win (fun b=>b=B) e size w (.slice (some ⟨B,0,none⟩) 1 1) 1 cs :=
 ⟨by omega,.inr ⟨B,0,1,_,rfl,rfl,h,Nat.le_refl _,by unfold maxLen;omega,by simp;omega,by rw [Nat.one_mul,<- hl];simp⟩⟩
section
variable {w:World} {g:Nat} {t:TypeId} {v0 v1 v2 v3 v4 v5 v6 v7 v8 v9 vA:Value}
theorem Own.elev (h:Own w g t [v0,v1,v2,v3,v4,v5,v6,v7,v8,v9,vA]) :
  w.cell? ⟨g,0,none⟩=some v0/\w.cell? ⟨g,1,none⟩=some v1/\w.cell? ⟨g,2,none⟩=some v2/\w.cell? ⟨g,3,none⟩=some v3/\w.cell? ⟨g,4,none⟩=some v4/\w.cell? ⟨g,5,none⟩=some v5/\w.cell? ⟨g,6,none⟩=some v6/\w.cell? ⟨g,7,none⟩=some v7/\w.cell? ⟨g,8,none⟩=some v8/\w.cell? ⟨g,9,none⟩=some v9/\w.cell? ⟨g,10,none⟩=some vA :=
 ⟨h.cell 0,h.cell 1,h.cell 2,h.cell 3,h.cell 4,h.cell 5,h.cell 6,h.cell 7,h.cell 8,h.cell 9,h.cell 10⟩
theorem Own.elevf (h:Own w g t [v0,v1,v2,v3,v4,v5,v6,v7,v8,v9,vA]) :
  w.frozen? ⟨g,0,none⟩=false/\w.frozen? ⟨g,1,none⟩=false/\w.frozen? ⟨g,2,none⟩=false/\w.frozen? ⟨g,3,none⟩=false/\w.frozen? ⟨g,4,none⟩=false/\w.frozen? ⟨g,5,none⟩=false/\w.frozen? ⟨g,6,none⟩=false/\w.frozen? ⟨g,7,none⟩=false/\w.frozen? ⟨g,8,none⟩=false/\w.frozen? ⟨g,9,none⟩=false/\w.frozen? ⟨g,10,none⟩=false :=
 ⟨h.thaw 0,h.thaw 1,h.thaw 2,h.thaw 3,h.thaw 4,h.thaw 5,h.thaw 6,h.thaw 7,h.thaw 8,h.thaw 9,h.thaw 10⟩
def setEl (w:World) (g:Nat) (u0 u1 u2 u3 u4 u5 u6 u7 u8 u9 uA:Value):World :=
 ((((((((((w.setCell ⟨g,0,none⟩ u0).setCell ⟨g,1,none⟩ u1).setCell ⟨g,2,none⟩ u2).setCell ⟨g,3,none⟩ u3).setCell ⟨g,4,none⟩ u4).setCell ⟨g,5,none⟩ u5).setCell ⟨g,6,none⟩ u6).setCell ⟨g,7,none⟩ u7).setCell ⟨g,8,none⟩ u8).setCell ⟨g,9,none⟩ u9).setCell ⟨g,10,none⟩ uA
theorem mZ (w:World) (g:Nat) (u0 u1 u2 u3 u4 u5 u6 u7 u8 u9 uA:Value) :
 ((((((((((w.setCell ⟨g,0,none⟩ u0).setCell ⟨g,1,none⟩ u1).setCell ⟨g,2,none⟩ u2).setCell ⟨g,3,none⟩ u3).setCell ⟨g,4,none⟩ u4).setCell ⟨g,5,none⟩ u5).setCell ⟨g,6,none⟩ u6).setCell ⟨g,7,none⟩ u7).setCell ⟨g,8,none⟩ u8).setCell ⟨g,9,none⟩ u9).setCell ⟨g,10,none⟩ uA=setEl w g u0 u1 u2 u3 u4 u5 u6 u7 u8 u9 uA:=rfl
theorem Own.putEl (h:Own w g t [v0,v1,v2,v3,v4,v5,v6,v7,v8,v9,vA]) (u0 u1 u2 u3 u4 u5 u6 u7 u8 u9 uA:Value):Own (setEl w g u0 u1 u2 u3 u4 u5 u6 u7 u8 u9 uA) g t [u0,u1,u2,u3,u4,u5,u6,u7,u8,u9,uA] :=
 ((((((((((h.put 0 u0).put 1 u1).put 2 u2).put 3 u3).put 4 u4).put 5 u5).put 6 u6).put 7 u7).put 8 u8).put 9 u9).put 10 uA
theorem But.setEl (w:World) (g:Nat) (u0 u1 u2 u3 u4 u5 u6 u7 u8 u9 uA:Value):But (fun j=>j=g) w (setEl w g u0 u1 u2 u3 u4 u5 u6 u7 u8 u9 uA) :=
 (((((((((((But.refl (fun j=>j=g) w).setCell (p:=⟨g,0,none⟩) (fun _=>rfl) u0).setCell (p:=⟨g,1,none⟩) (fun _=>rfl) u1).setCell (p:=⟨g,2,none⟩) (fun _=>rfl) u2).setCell (p:=⟨g,3,none⟩) (fun _=>rfl) u3).setCell (p:=⟨g,4,none⟩) (fun _=>rfl) u4).setCell (p:=⟨g,5,none⟩) (fun _=>rfl) u5).setCell (p:=⟨g,6,none⟩) (fun _=>rfl) u6).setCell (p:=⟨g,7,none⟩) (fun _=>rfl) u7).setCell (p:=⟨g,8,none⟩) (fun _=>rfl) u8).setCell (p:=⟨g,9,none⟩) (fun _=>rfl) u9).setCell (p:=⟨g,10,none⟩) (fun _=>rfl) uA
end
open Go.Sort
def sgG (L:List Tok) (s:List UInt8) (k:Nat):Option Ft2->Nat × Option Ft2
 | none=>A4h L s k (oO L s k)
 | some f=>(k,some f)
theorem B2G (s:ByteArray) (g:Nat) (lo:Option Addr) (lc:Nat) (L:List Tok) (k:Nat) (F:Option Ft2) (hn:(L.length:Int)<=90000) (hk:k < L.length) (w:World) (h:Pd w g lo lc L k F) :
  Calls Tryz.prog 80 #[.pointer (some ⟨g,0,none⟩),.string s] w fun e w'=>e=.returned (.tuple #[])/\But (fun j=>j=g) w w'/\Pd w' g lo lc L (sgG L s.data.toList k F).1 (sgG L s.data.toList k F).2:=by
 cases F with
 | none=>exact B2F s g lo lc L k hn hk w h
 | some f=>exact A1C s g lo lc L k f hn hk w h
def nmG (k:Nat):Except Ft2 (ByteArray × Nat)->ByteArray × Nat × Option Ft2
 | .ok (x,m)=>(x,m,none)
 | .error f=>(⟨#[]⟩,k,some f)
theorem A1B (l:List ByteArray) (ao:Option Addr) (cap:Nat) (hl:(l.length:Int)<=90000) (g:Nat) (lo:Option Addr) (lc:Nat) (L:List Tok) (k:Nat) (hn:(L.length:Int)<=90000) (hk:k < L.length) (htx:∀ t ∈ L,t.tx.size<=1000000) (w:World) (h:Pd w g lo lc L k none) (hN:gI w ao l) :
  Calls Tryz.prog 48 #[.pointer (some ⟨g,0,none⟩),.slice ao l.length cap] w fun e w'=>e=.returned (.string (nmG k (pV L l k)).1)/\Pd w' g lo lc L (nmG k (pV L l k)).2.1 (nmG k (pV L l k)).2.2/\But (fun j=>j=g) w w':=by
 refine (B8V l ao cap hl g lo lc L k hn hk htx w h hN).mono fun e w' ⟨h1,h2⟩=>?_
 cases hr:pV L l k with
 | ok p =>
  obtain ⟨x,m⟩:=p;rw [hr] at h1;exact ⟨h1.1,h1.2,h2⟩
 | error f =>
  rw [hr] at h1;exact ⟨h1.1,h1.2,h2⟩
theorem B3N {NN:Nat} {L:List Tok} (HN:∀ k,(tkA L k).kd ≠ 0->k < NN) {s:List UInt8} {k:Nat} {F:Option Ft2} (hk:k<=NN):(sgG L s k F).1<=NN:=by
 cases F with
 | some f=>exact hk
 | none =>
  show (A4h L s k (oO L s k)).1<=NN
  cases h:oO L s k with
  | error f=>exact hk
  | ok m=>exact (DL HN h).2
theorem A5m {NN:Nat} {L:List Tok} (HN:∀ k,(tkA L k).kd ≠ 0->k < NN) {l:List ByteArray} {k m:Nat} {x:ByteArray} (h:pV L l k=.ok (x,m)):m=k + 1/\m<=NN:=by
 unfold pV at h;split at h
 ·
  rename_i hw;split at h
  · cases h
  · injection h with h;injection h with _ h;subst h;rw [Bool.and_eq_true,beq_iff_eq] at hw;exact ⟨rfl,HN k (by rw [hw.1];decide)⟩
 · cases h
theorem B1g {NN:Nat} {L:List Tok} (HN:∀ k,(tkA L k).kd ≠ 0->k < NN) {l:List ByteArray} {k:Nat} (hk:k<=NN):(nmG k (pV L l k)).2.1<=NN:=by
 cases h:pV L l k with
 | error f=>exact hk
 | ok p =>
  obtain ⟨x,m⟩:=p;exact (A5m HN h).2
theorem A4w {NN:Nat} {L:List Tok} (HN:∀ k,(tkA L k).kd ≠ 0->k < NN) {k kd:Nat} {s:List UInt8} (hd:kd ≠ 0) (h:wdB L k kd s=true):k + 1<=NN:=by unfold wdB at h;rw [Bool.and_eq_true,beq_iff_eq] at h;exact HN k (by rw [h.1];exact hd)
def AP (L:List Tok) (r:Except Ft2 (ByteArray × Nat)) (R:ByteArray->Nat->Except Ft2 (Md × Nat)):Except Ft2 (Md × Nat):=match r with
 | .error e=>.error e
 | .ok (x,k)=>match oO L [59] k with
  | .error e=>.error e
  | .ok k1=>R x k1
def InQ (RES:Except Ft2 (Md × Nat)) (R:ByteArray->Nat->Except Ft2 (Md × Nat)) (x:ByteArray) (k:Nat):Option Ft2->Prop
 | none=>RES=R x k
 | some f=>RES=.error f
theorem A2W {L:List Tok} {k:Nat} {r:Except Ft2 (ByteArray × Nat)} {R:ByteArray->Nat->Except Ft2 (Md × Nat)} {RES:Except Ft2 (Md × Nat)} (h:RES=AP L r R) :
  InQ RES R (nmG k r).1 (sgG L [59] (nmG k r).2.1 (nmG k r).2.2).1 (sgG L [59] (nmG k r).2.1 (nmG k r).2.2).2:=by
 subst h
 cases r with
 | error f=>rfl
 | ok p =>
  obtain ⟨x,m⟩:=p;show InQ (match oO L [59] m with | .error e=>.error e | .ok k1=>R x k1) R x (A4h L [59] m (oO L [59] m)).1 (A4h L [59] m (oO L [59] m)).2
  cases h:oO L [59] m with
  | error f=>rfl
  | ok k1=>rfl
def hdT (L:List Tok) (nm:ByteArray):Except Ft2 (List ByteArray × Nat)->Except Ft2 (Md × Nat)
 | .error e=>.error e
 | .ok (im,k)=>BG L nm im k
theorem VF (L:List Tok):Oz L=if wdB L 0 1 [109,111,100,117,108,101]=true then AP L (pV L [] 1) (fun nm k=>hdT L nm (yD L nm (L.length + 1) [] k)) else .error (gH L 2 0):=by
 unfold Oz AP;split
 ·
  cases pV L [] 1 with
  | error e=>rfl
  | ok p =>
   obtain ⟨x,m⟩:=p;show (match oO L [59] m with | .error e=>Except.error e | .ok k1=>(match yD L x (L.length + 1) [] k1 with | .error e=>Except.error e | .ok (im,k2)=>BG L x im k2))=(match oO L [59] m with | .error e=>Except.error e | .ok k1=>hdT L x (yD L x (L.length + 1) [] k1))
   cases oO L [59] m with
   | error e=>rfl
   | ok k1 =>
    show (match yD L x (L.length + 1) [] k1 with | .error e=>Except.error e | .ok (im,k2)=>BG L x im k2)=hdT L x (yD L x (L.length + 1) [] k1)
    cases yD L x (L.length + 1) [] k1 <;> rfl
 · rfl
theorem B7w (L:List Tok) (nm:ByteArray) {f:Nat} (hf:0 < f) (im:List ByteArray) (k:Nat):hdT L nm (yD L nm f im k) =
  if wdB L k 1 [105,109,112,111,114,116]=true then (if im.length=4 then .error (gH L 3 k) else AP L (pV L (nm :: im) (k + 1)) (fun x k2=>hdT L nm (yD L nm (f - 1) (im ++ [x]) k2))) else BG L nm im k:=by
 obtain ⟨f,rfl⟩:∃ q,f=q + 1:=⟨f - 1,by omega⟩;rw [Nat.add_sub_cancel]
 conv=>lhs;unfold yD
 split
 ·
  split
  · rfl
  ·
   unfold AP
   cases pV L (nm :: im) (k + 1) with
   | error e=>rfl
   | ok p =>
    obtain ⟨x,m⟩:=p;show hdT L nm (match oO L [59] m with | .error e=>Except.error e | .ok k2=>yD L nm f (im ++ [x]) k2)=(match oO L [59] m with | .error e=>Except.error e | .ok k1=>hdT L nm (yD L nm f (im ++ [x]) k1))
    cases oO L [59] m <;> rfl
 · rfl
def A5j (m:Md) (io:Option Addr) (ic:Nat) (ko:Option Addr) (kc:Nat) (ru:Value):List Value :=
 [.string m.nm,.slice io m.im.length ic,.bool m.wet,.int .i64 m.wa.op,.string m.wa.text,.int .u64 m.wa.s0,.int .u64 m.wa.s1,.int .u64 m.wa.s2,.int .u64 m.wa.s3,.slice ko m.wa.kids.length kc,ru]
def mdv (m:Md) (io:Option Addr) (ic:Nat) (ko:Option Addr) (kc:Nat) (ru:Value):Value:=.agg (A5j m io ic ko kc ru).toArray
theorem uZ:(Tryz.prog.info? 9).map (fun i=>(i.zero,i.size,i.bytes))=some (some (.string ⟨#[]⟩),1,16):=by kernel_rfl
theorem gI.nil (w:World) (ao:Option Addr):gI w ao []:=fun k x h=>by simp at h
theorem Src.ofNames {w:World} {ao:Option Addr} {cap:Nat} {l:List ByteArray} (h:gI w ao l):Src Tryz.prog 1 22 (.slice ao l.length cap) l.length (l.map Value.string) w:=by
 rcases Nat.eq_zero_or_pos l.length with h0 | hp
 ·
  have:=List.length_eq_zero_iff.1 h0;subst this
  cases ao with
  | none=>exact Src.ofNil w Tryz.underlying22 cap
  | some a=>exact Src.ofSlice w Tryz.underlying22 a 0 cap [] rfl (fun j u h=>by simp at h) (fun u h=>by simp at h)
 ·
  obtain ⟨b,off,rfl,-,-⟩:=h 0 l[0] (aG hp);refine Src.ofSlice w Tryz.underlying22 ⟨b,off,none⟩ l.length cap _ (by simp) (fun j u hu=>?_) (fun u hu=>by obtain ⟨y,_,rfl⟩:=List.mem_map.1 hu;rfl);rw [List.getElem?_map] at hu
  cases hx:l[j]? with
  | none=>simp [hx] at hu
  | some x =>
   simp [hx] at hu;subst hu;obtain ⟨b',off',e,-,c⟩:=h j x hx;injection e with e;injection e with e1 e2;subst e1 e2;rw [Addr.add_lit];exact c
end Go.Proofs.YthkdnehgamefiaaGreat
namespace Go.Proofs.YthkdnehgamefiaaGreat
set_option linter.unusedVariables false
section
variable {P:Program} {ops:Array Oper} {Q:Exit->Act->World->Prop} {md:Region.Mode} {S:World->Prop} {z:Nat}
def bK (P:Program) (md:Region.Mode) (ops:Array Oper) (Q:Exit->Act->World->Prop) (S:World->Prop) (z:Nat):Nat->Array Bool->Act->World->Prop
 | 0,l,a,w=>Region.ready md ops l=[]/\Q .normal a w
 | n + 1,l,a,w=>(Region.ready md ops l=[]->Q .normal a w) ∧
   ∀ j ∈ Region.ready md ops l,wpOp P ops Q j (fun b v=>(j=z\/S v)/\bK P md ops Q S z n (l.setIfInBounds j true) b v) a w
theorem bK.any:∀ (n:Nat) (l:Array Bool) (a:Act) (w:World),bK P md ops Q S z n l a w->wpAny P md ops Q n l a w
 | 0,_,_,_,h=>h
 | n + 1,l,a,w,h=>⟨h.1,fun j hj=>wpOp_mono (fun b v hb=>bK.any n _ b v hb.2) (h.2 j hj)⟩
def waits (md:Region.Mode) (ops:Array Oper) (z i:Nat):Bool:=match ops[z]? with
 | some o=>o.after.any (fun e=>Region.binds md e && e.on == i)
 | none=>false
theorem waits.not_ready {i:Nat} {l:Array Bool} (h:waits md ops z i=true) (hi:i ∈ Region.ready md ops l):z ∉ Region.ready md ops l:=by
 intro hz;obtain ⟨h0,-⟩:=mem_ready.1 hi;obtain ⟨-,o,ho,hall⟩:=mem_ready.1 hz;unfold waits at h;rw [ho] at h;obtain ⟨e,he,hb⟩:=Array.any_eq_true'.1 h;rw [Bool.and_eq_true,beq_iff_eq] at hb;have h1:=hall e he hb.1;rw [hb.2] at h1;rcases Nat.lt_or_ge i l.size with h2 | h2
 ·
  simp [h2] at h0 h1;rw [h0] at h1
  cases h1
 · simp [Array.getElem?_eq_none h2] at h1
theorem bK.take_first {i:Nat} {oi:Oper} {v:Value} (hi:ops[i]?=some oi) (hs:Region.noSelect ops=true) (hz:waits md ops z i=true) (hQ:∀ c a w,Q (.panic c) (a.put oi.dst v) w->Q (.panic c) a w) :
  ∀ (n:Nat) (l:Array Bool) (a:Act) (w:World),(∀ j oj,ops[j]?=some oj->j ≠ i->l.getD j true=false->(∀ e ∈ oj.after,Region.binds md e=true->e.on ≠ i)->oi.apart ops oj=true) →
   i ∈ Region.ready md ops l->YieldsIf P ops S oi v a->S w->bK P md ops Q S z n (l.setIfInBounds i true) (a.put oi.dst v) w->bK P md ops Q S z (n + 1) l a w
 | n,l,a,w,hf,hr,hy,hS,H=>by
  refine ⟨fun h=>absurd hr (by rw [h];exact List.not_mem_nil),fun j hj=>?_⟩;rcases Nat.decEq j i with hji | hji
  ·
   have hj2:=ready_mono hj hji;have hjz:j ≠ z:=fun e=>waits.not_ready hz hr (e ▸ hj)
   cases n with
   | zero=>rw [H.1] at hj2;exact absurd hj2 List.not_mem_nil
   | succ n =>
    obtain ⟨h0,oj,ho,hall⟩:=mem_ready.1 hj;have hap:oi.apart ops oj=true:=hf j oj ho hji h0 fun e he hb heq=>by
     have h1:=hall e he hb;have h2:=(mem_ready.1 hr).1;rw [heq] at h1;rcases Nat.lt_or_ge i l.size with h3 | h3
     ·
      simp [h3] at h1 h2;rw [h2] at h1
      cases h1
     · simp [Array.getElem?_eq_none h3] at h1
    have h4:=wpOp_putIf ho hap (fun cs b=>Region.noSelect_spec hs i oi cs b hi) (fun cs b=>Region.noSelect_spec hs j oj cs b ho) hQ hy (H.2 j hj2);refine wpOp_mono (fun b u h5=>?_) h4;have hSu:S u:=h5.2.1.resolve_left hjz;refine ⟨.inr hSu,bK.take_first hi hs hz hQ n _ b u (fun k ok hk hki hun hno=>?_) (ready_mono hr (Ne.symm hji)) h5.1 hSu ?_⟩
    ·
     refine hf k ok hk hki ?_ hno;rcases Nat.decEq j k with e | e
     · rw [getD_set_ne true e] at hun;exact hun
     · subst e;exact h0
    · rw [Array.setIfInBounds_comm _ _ hji];exact h5.2.2
  · subst hji;exact hy.wpOp hi hS ⟨.inr hS,H⟩
theorem bK.take {i:Nat} {oi:Oper} {v:Value} {n:Nat} {l:Array Bool} {a:Act} {w:World} (hi:ops[i]?=some oi) (hz:waits md ops z i=true) (hs:Region.noSelect ops=true) (hf:Region.free md ops l i=true) (hr:(Region.ready md ops l).contains i=true)
  (hQ:∀ c a w,Q (.panic c) (a.put oi.dst v) w->Q (.panic c) a w) (hy:YieldsIf P ops S oi v a) (hS:S w)
  (h:bK P md ops Q S z n (l.setIfInBounds i true) (a.put oi.dst v) w):bK P md ops Q S z (n + 1) l a w :=
 bK.take_first hi hs hz hQ n l a w (Region.free_spec hi hf) (by simpa using hr) hy hS h
theorem bK.one {i:Nat} {n:Nat} {l:Array Bool} {a:Act} {w:World} (hr:Region.ready md ops l=[i]) (h:wpOp P ops Q i (fun b v=>(i=z\/S v)/\bK P md ops Q S z n (l.setIfInBounds i true) b v) a w):bK P md ops Q S z (n + 1) l a w :=
 ⟨fun h0=>absurd (hr.symm.trans h0) (by simp),by rw [hr];intro j hj;obtain rfl:=List.mem_singleton.1 hj;exact h⟩
theorem bK.done {l:Array Bool} {a:Act} {w:World} (hr:Region.ready md ops l=[]) (h:Q .normal a w):∀ n,bK P md ops Q S z n l a w
 | 0=>⟨hr,h⟩
 | n + 1=>⟨fun _=>h,by rw [hr];simp⟩
end
theorem lI {P:Program} {Q:Exit->Act->World->Prop} (S:World->Prop) (z:Nat) {id:Nat} {ops:Array Oper} {a:Act} {w:World} (hm:P.follows .mixedOrders=true)
  (h:bK P .any ops Q S z ops.size (Array.replicate ops.size false) a w.drew):(Code.region id ops true).wp P Q a w :=
 wp_region_any hm (bK.any _ _ _ _ h)
open Go.RowKit Go.Sort
theorem B8H (L:List Tok) (l:List ByteArray) (k:Nat):k<=(nmG k (pV L l k)).2.1:=by
 unfold pV;split
 ·
  split
  · exact Nat.le_refl _
  · exact Nat.le_succ _
 · exact Nat.le_refl _
theorem B8z (L:List Tok) (s:List UInt8) (k:Nat) (F:Option Ft2):k<=(sgG L s k F).1:=by
 cases F with
 | some f=>exact Nat.le_refl _
 | none =>
  show k<=(A4h L s k (oO L s k)).1;unfold oO;split
  · exact Nat.le_succ _
  · exact Nat.le_refl _
def nJ (w:World) (R:Nat->Prop) (ao:Option Addr) (l:List ByteArray):Prop:=∀ k x,l[k]?=some x->∃ b off,ao=some ⟨b,off,none⟩/\b < w.heap.size/\R b/\w.cell? ⟨b,off + k,none⟩=some (.string x)
theorem nJ.hasN {w:World} {R:Nat->Prop} {ao:Option Addr} {l:List ByteArray} (h:nJ w R ao l):gI w ao l:=fun k x hx=>by obtain ⟨b,off,e,hlt,_,c⟩:=h k x hx;exact ⟨b,off,e,hlt,c⟩
theorem nJ.but {S R:Nat->Prop} {w w':World} {ao:Option Addr} {l:List ByteArray} (h:nJ w R ao l) (hb:But S w w') (hS:∀ j,j < w.heap.size->R j->¬ S j):nJ w' R ao l:=fun k x hx=>by obtain ⟨b,off,e,hlt,hr,c⟩:=h k x hx;exact ⟨b,off,e,aL hlt hb.size,hr,hb.cell (hS b hlt hr) c⟩
theorem nJ.mono {R T:Nat->Prop} {w:World} {ao:Option Addr} {l:List ByteArray} (h:nJ w R ao l) (hR:∀ b,b < w.heap.size->R b->T b):nJ w T ao l:=fun k x hx=>by obtain ⟨b,off,e,hlt,hr,c⟩:=h k x hx;exact ⟨b,off,e,hlt,hR b hlt hr,c⟩
theorem A0I {S:Nat->Prop} {w:World} {ao:Option Addr} {n c:Nat} {l:List ByteArray} (h:Win S 9 1 w (.slice ao n c) n (l.map Value.string)):nJ w S ao l:=fun k x hx=>by
 have hk:k < l.length:=(aS.1 hx).1;have hn:l.length=n:=by have:=h.1;simpa using this
 obtain ⟨ao',cap,e1,h1,h2,hf⟩:=h.form;injection e1 with e1 e2 e3;subst e1;obtain ⟨g,off,e,hs,hg,hc,_⟩:=hf k (by omega);exact ⟨g,off,e,hg,hs,by rw [hc,List.getElem?_map,hx];rfl⟩
def C1A (D g:Nat) (lo:Option Addr) (lc:Nat) (L:List Tok) (NN:Nat) (r:Except Ft2 (Md × Nat)) (m:Md) (io ko:Option Addr) (w':World):Prop:=match r with
 | .ok (x,k)=>x=m/\k<=NN/\Pd w' g lo lc L k none/\nJ w' (fun b=>D<=b) io m.im/\∃ n,dD w' D n ko m.wa.kids
 | .error f=>∃ k',k'<=NN/\Pd w' g lo lc L k' (some f)
def C0c (nm:ByteArray) (im:List ByteArray):Rs->Except Ft2 (Md × Nat)
 | .error e=>.error e
 | .ok (x,m)=>.ok (⟨nm,im,true,x,[]⟩,m)
theorem XV (L:List Tok) (nm:ByteArray) (im:List ByteArray) (k:Nat):BG L nm im k=if wdB L k 1 [119,97,116,101,114]=true then C0c nm im (uW L (k + 1)) else .ok (⟨nm,im,false,ex0,[]⟩,k):=by
 unfold BG;split
 · cases uW L (k + 1) <;> rfl
 · rfl
def ImQ (L:List Tok) (RES:Except Ft2 (Md × Nat)) (nm:ByteArray) (im:List ByteArray) (k:Nat):Option Ft2->Prop
 | none=>∃ f,RES=hdT L nm (yD L nm f im k)/\L.length < f + k
 | some f=>RES=.error f
set_option maxRecDepth 1000000 in
set_option maxHeartbeats 3200000 in
theorem B8U (NN g:Nat) (lo:Option Addr) (lc:Nat) (L:List Tok) (hn:(L.length:Int)<=90000) (hL:0 < L.length) (htx:∀ t ∈ L,t.tx.size<=1000000) (hNN:NN + 1=L.length) (HNB:∀ k,(tkA L k).kd ≠ 0->k < NN) (w:World) (h:Pd w g lo lc L 0 none) :
  Calls Tryz.prog 47 #[.pointer (some ⟨g,0,none⟩),.agg #[.string ⟨#[]⟩,.slice none 0 0,.bool false,.int .i64 0,.string ⟨#[]⟩,.int .u64 0,.int .u64 0,.int .u64 0,.int .u64 0,.slice none 0 0,.slice none 0 0]] w fun e w'=>But (fun j=>j=g) w w'/\∃ m io ic ko kc,e=.returned (mdv m io ic ko kc (.slice none 0 0))/\m.im.length<=ic/\C1A w.heap.size g lo lc L NN (Oz L) m io ko w':=by
 have HH:=aH h;have HBB:=aH HNB;have HWD:=aH (fun (s:ByteArray) (m:Nat) (hm:m < L.length) (F:Option Ft2) W (hW:Pd W g lo lc L m F)=>A3v 1 s g lo lc L m F hn hm W hW);have HFL:=aH (fun (c:Int) (hc:c ≠ 0) (m:Nat) (hm:m < L.length) W (hW:Pd W g lo lc L m none)=>JP c hc g lo lc L m none hn hm W hW);have HSG:=aH (fun (s:ByteArray) (m:Nat) (hm:m < L.length) (F:Option Ft2) W (hW:Pd W g lo lc L m F)=>B2G s g lo lc L m F hn hm W hW);have HNM:=aH (fun (l:List ByteArray) (ao:Option Addr) (cap:Nat) (hl:(l.length:Int)<=90000) (m:Nat) (hm:m < L.length) W (hW:Pd W g lo lc L m none) (hN:gI W ao l)=>A1B l ao cap hl g lo lc L m hn hm htx W hW hN);have HBO:=aH (fun (m:Nat) (hm:m < L.length) W (hW:Pd W g lo lc L m none)=>B2D NN g lo lc L m hn hm htx (by omega) HNB W hW);obtain ⟨OS,hOS⟩:∃ OS:List Obj,OS=[.cells #[.string ⟨#[]⟩,.slice none 0 0,.bool false,.int .i64 0,.string ⟨#[]⟩,.int .u64 0,.int .u64 0,.int .u64 0,.int .u64 0,.slice none 0 0,.slice none 0 0] 35,.cells #[.string ⟨#[]⟩,.slice none 0 0,.bool false,.int .i64 0,.string ⟨#[]⟩,.int .u64 0,.int .u64 0,.int .u64 0,.int .u64 0,.slice none 0 0,.slice none 0 0] 35]:=⟨_,rfl⟩;obtain ⟨A,hA⟩:∃ A,w.heap.size=A:=⟨_,rfl⟩;obtain ⟨B,hB⟩:∃ B,A + 1=B:=⟨_,rfl⟩;have HN:=aH (show A + 1=B/\w.heap.size=A/\g < A from ⟨hB,hA,by have:=h.1.lt;omega⟩);have HA:=aH (show Own (made w OS) A 35 [.string ⟨#[]⟩,.slice none 0 0,.bool false,.int .i64 0,.string ⟨#[]⟩,.int .u64 0,.int .u64 0,.int .u64 0,.int .u64 0,.slice none 0 0,.slice none 0 0] by rw [<- hA];exact kC OS w 0 _ _ (by rw [hOS];rfl));have HB:=aH (show Own (made w OS) B 35 [.string ⟨#[]⟩,.slice none 0 0,.bool false,.int .i64 0,.string ⟨#[]⟩,.int .u64 0,.int .u64 0,.int .u64 0,.int .u64 0,.slice none 0 0,.slice none 0 0] by rw [<- hB,<- hA];exact kC OS w 1 _ _ (by rw [hOS];rfl));have HP:=aH (h.below (lQ w OS w (Below.refl _ _)));have HU:=aH (But.of_below (S:=fun j=>j=g) (lQ w OS w (Below.refl _ _)));have HSP:=aH (VF L);have hW:(w.alloc (.cells #[.string ⟨#[]⟩,.slice none 0 0,.bool false,.int .i64 0,.string ⟨#[]⟩,.int .u64 0,.int .u64 0,.int .u64 0,.int .u64 0,.slice none 0 0,.slice none 0 0] 35)).alloc (.cells #[.string ⟨#[]⟩,.slice none 0 0,.bool false,.int .i64 0,.string ⟨#[]⟩,.int .u64 0,.int .u64 0,.int .u64 0,.int .u64 0,.slice none 0 0,.slice none 0 0] 35)=made w OS:=by rw [hOS];rfl
 generalize Oz L=RES at *;obtain ⟨z,hz⟩:∃ z,wdB L 0 1 [109,111,100,117,108,101]=z:=⟨_,rfl⟩;have HZ:=aH hz;have HW1:=aH (HWD.o ⟨#[109,111,100,117,108,101]⟩ 0 hL none);rw [show (⟨#[109,111,100,117,108,101]⟩:ByteArray).data.toList=[109,111,100,117,108,101] from rfl,hz] at HW1;rw [hz] at HSP;clear hOS h HNB htx hz;go_enter Tryz.func47,Tryz.ntmps47;go_upto_region 1 with fail;try rw [hA]
 clear hA hB hW;generalize made w OS=w1 at *;go_wp2_with fail;refine (HW1.o _ HP.o).mono ?_;rintro e w2 ⟨rfl,hb⟩;have HA2:=aH (HA.o.under hb HA.o.lt);have HB2:=aH (HB.o.under hb HB.o.lt);have HP2:=aH (HP.o.below hb);have HU2:=aH (HU.o.then_below hb);clear hb HA HB HP HU HW1;have ne1:¬ A=B:=by have:=HN.o;omega
 have ne2:¬ B=A:=by have:=HN.o;omega
 have ne3:¬ A=g:=by have:=HN.o;omega
 have ne4:¬ g=A:=by have:=HN.o;omega
 have ne5:¬ B=g:=by have:=HN.o;omega
 have ne6:¬ g=B:=by have:=HN.o;omega
 cases z
 case false =>
  have HE:=aH (HSP.o.trans (if_neg (by decide)));have HUc:=HU2;go_wp2_with fail;refine (HFL.o 2 (by decide) 0 (by omega) _ HP2.o).mono ?_;rintro e w3 ⟨rfl,hbu,hp⟩;have HA3:=aH (HA2.o.but hbu (by have:=HN.o;omega));have HB3:=aH (HB2.o.but hbu (by have:=HN.o;omega));have HUf:=aH (HUc.o.trans hbu (fun _ _ h=>h));have HPf:=aH (show Pd w3 g lo lc L (0) (some (gH L 2 (0))) from hp);clear hbu hp;obtain ⟨a0,a1,a2,a3,a4,a5,a6,a7,a8,a9,aA⟩:=HA3.o.elev;have al:=HA3.o.lt;obtain ⟨b0,b1,b2,b3,b4,b5,b6,b7,b8,b9,bA⟩:=HB3.o.elev;obtain ⟨f0,f1,f2,f3,f4,f5,f6,f7,f8,f9,fA⟩:=HB3.o.elevf;have bl:=HB3.o.lt;go_wp2;rw [mZ];have HF:=HB3.o.putEl (.string ⟨#[]⟩) (.slice none 0 0) (.bool false) (.int .i64 0) (.string ⟨#[]⟩) (.int .u64 0) (.int .u64 0) (.int .u64 0) (.int .u64 0) (.slice none 0 0) (.slice none 0 0);have HBW:=aH (But.setEl w3 B (.string ⟨#[]⟩) (.slice none 0 0) (.bool false) (.int .i64 0) (.string ⟨#[]⟩) (.int .u64 0) (.int .u64 0) (.int .u64 0) (.int .u64 0) (.slice none 0 0) (.slice none 0 0));have HU9:=aH (HUf.o.trans HBW.o (fun j hj e=>by have:=HN.o;omega));have HP9:=aH (Pd.butx HH.o HU9.o HPf.o HBW.o (by have:=HN.o;omega));clear a0 a1 a2 a3 a4 a5 a6 a7 a8 a9 aA al b0 b1 b2 b3 b4 b5 b6 b7 b8 b9 bA f0 f1 f2 f3 f4 f5 f6 f7 f8 f9 fA bl;generalize setEl _ B _ _ _ _ _ _ _ _ _ _ _=w99 at *;obtain ⟨z0,z1,z2,z3,z4,z5,z6,z7,z8,z9,zA⟩:=HF.elev;refine bodyPost_ret (by simp [results,Tryz.results47,go_sem,z0,z1,z2,z3,z4,z5,z6,z7,z8,z9,zA];rfl) rfl ?_;rw [HE.o,HN.o.2.1];exact ⟨HU9.o,md0,none,0,none,0,rfl,Nat.zero_le _,0,Nat.zero_le _,HP9.o⟩
 case true =>
  have HS1:=aH (HSP.o.trans (if_pos rfl));have h1N:1<=NN:=A4w HBB.o (by decide) HZ.o;have h1L:1 < L.length:=by omega
  obtain ⟨c0,c1,c2,c3,c4,c5,cg⟩:=HP2.o.1.six_r;obtain ⟨d1,d2,d3,d4,d5⟩:=HP2.o.1.six_f;have c1':w2.cell? ⟨g,1,none⟩=some (.int .i64 0):=c1;have HP3:=aH (HP2.o.at1 1 (.int .i64 1) rfl);have HU3:=aH (HU2.o.setCell (p:=⟨g,1,none⟩) (fun _=>rfl) (.int .i64 1));have HA3:=aH (HA2.o.off (p:=⟨g,1,none⟩) ne3 (.int .i64 1));have HB3:=aH (HB2.o.off (p:=⟨g,1,none⟩) ne5 (.int .i64 1));clear c1;go_upto_region 5 with fail;clear c0 c1' c2 c3 c4 c5 cg d1 d2 d3 d4 d5 HP2 HU2 HA2 HB2 HSP;generalize World.setCell w2 _ _=w3 at *;obtain ⟨r,hr⟩:∃ r,pV L [] 1=r:=⟨_,rfl⟩;have HQ1:=aH (A2W (k:=1) HS1.o);have HNC:=aH (HNM.o [] none 0 (by decide) 1 h1L w3 HP3.o (gI.nil _ _));have HK1:=aH (B1g (l:=[]) HBB.o h1N);rw [hr] at HNC HQ1 HK1;obtain ⟨nm,hnm⟩:∃ x,(nmG 1 r).1=x:=⟨_,rfl⟩;obtain ⟨k1,hk1⟩:∃ x,(nmG 1 r).2.1=x:=⟨_,rfl⟩;obtain ⟨F1,hF1⟩:∃ x,(nmG 1 r).2.2=x:=⟨_,rfl⟩;rw [hnm,hk1,hF1] at HNC HQ1;rw [hk1] at HK1;clear hr hnm hk1 hF1 HS1;go_wp2_with fail;refine HNC.o.mono ?_;rintro e w4 ⟨rfl,hp,hbu⟩;have HP4:=aH hp;have HU4:=aH (HU3.o.trans hbu (fun _ _ h=>h));have HA4:=aH (HA3.o.but hbu ne3);have HB4:=aH (HB3.o.but hbu ne5);have a0:=HA4.o.cell 0;have e0:=HA4.o.thaw 0;have al:=HA4.o.lt;have HP5:=aH (show Pd (w4.setCell ⟨A,0,none⟩ (.string nm)) g lo lc L k1 F1 from Pd.butx HH.o (HU4.o.trans (But.put w4 A 0 (.string nm)) (fun j hj e=>by have:=HN.o;omega)) HP4.o (But.put w4 A 0 (.string nm)) ne4);have HU5:=aH (HU4.o.trans (But.put w4 A 0 (.string nm)) (fun j hj e=>by have:=HN.o;omega));have HA5:=aH (HA4.o.put 0 (.string nm));have HB5:=aH (HB4.o.off (p:=⟨A,0,none⟩) ne2 (.string nm));go_upto_region 6 with fail;clear a0 e0 al hp hbu HP4 HU4 HA4 HB4 HP3 HU3 HA3 HB3 HNC;generalize World.setCell w4 _ _=w5 at *;have hk1L:k1 < L.length:=by have:=HK1.o;omega
  have HSC:=aH (HSG.o ⟨#[59]⟩ k1 hk1L F1 w5 HP5.o);have HK2:=aH (B3N (s:=[59]) (F:=F1) HBB.o HK1.o);rw [show (⟨#[59]⟩:ByteArray).data.toList=[59] from rfl] at HSC;obtain ⟨k2,hk2⟩:∃ x,(sgG L [59] k1 F1).1=x:=⟨_,rfl⟩;obtain ⟨F2,hF2⟩:∃ x,(sgG L [59] k1 F1).2=x:=⟨_,rfl⟩;rw [hk2,hF2] at HSC HQ1;rw [hk2] at HK2;clear hk2 hF2;go_wp2_with fail;refine HSC.o.mono ?_;rintro e w6 ⟨rfl,hbu,hp⟩;have HP6:=aH hp;have HU6:=aH (HU5.o.trans hbu (fun _ _ h=>h));have HA6:=aH (HA5.o.but hbu ne3);have HB6:=aH (HB5.o.but hbu ne5)
  have HI6:=aH (show ImQ L RES nm [] k2 F2 from by
   have q:=HQ1.o
   cases F2 with
   | none=>exact ⟨L.length + 1,q,by omega⟩
   | some f=>exact q)
  clear hbu hp HP5 HU5 HA5 HB5 HSC HQ1 HK1 hk1L;go_wp2_with fail
  go_loopw [] (fun wr=>∃ (kk:Nat) (F:Option Ft2) (im:List ByteArray) (io:Option Addr) (ic:Nat),(im.length:Int)<=4/\aQ (kk<=NN)/\aQ (Pd wr g lo lc L kk F)/\aQ (ImQ L RES nm im kk F) ∧
    aQ (Own wr A 35 [.string nm,.slice io im.length ic,.bool false,.int .i64 0,.string ⟨#[]⟩,.int .u64 0,.int .u64 0,.int .u64 0,.int .u64 0,.slice none 0 0,.slice none 0 0])/\aQ (Own wr B 35 [.string ⟨#[]⟩,.slice none 0 0,.bool false,.int .i64 0,.string ⟨#[]⟩,.int .u64 0,.int .u64 0,.int .u64 0,.int .u64 0,.slice none 0 0,.slice none 0 0])/\aQ (But (fun j=>j=g) w wr) ∧
    aQ (∃ S:Nat->Prop,(∀ b,S b->B < b/\b < wr.heap.size)/\Win S 9 1 wr (.slice io im.length ic) im.length (im.map Value.string)))
   (fun wr=>NN + 1 - (intOf ((wr.cell? ⟨g,1,none⟩).getD (.bool false))).toNat)
  case atStart=>exact ⟨k2,F2,[],none,0,by decide,HK2,HP6,HI6,HA6,HB6,HU6,aH ⟨fun _=>False,fun b h=>h.elim,Win.nil _ _ _ _⟩⟩
  case round =>
   obtain ⟨kk,F,im,io,ic,him,HK,HP,HI,HA,HB,HU,HW⟩:=hrel
   have HIC:=aH (show im.length<=ic from by
    obtain ⟨S,-,hW⟩:=HW.o;obtain ⟨ao,cap,e1,h1,-⟩:=hW.form;injection e1 with e1 e2 e3
    omega)
   clear HP6 HU6 HA6 HB6 HI6 HK2;have hkL:kk < L.length:=(by have:=HK.o;omega);have HPR:=HP;have HWC:=aH (HWD.o ⟨#[105,109,112,111,114,116]⟩ kk hkL F wr HP.o);have HWW:=aH (fun W hW=>HWD.o ⟨#[119,97,116,101,114]⟩ kk hkL F W hW);rw [show (⟨#[105,109,112,111,114,116]⟩:ByteArray).data.toList=[105,109,112,111,114,116] from rfl] at HWC;rw [show (⟨#[119,97,116,101,114]⟩:ByteArray).data.toList=[119,97,116,101,114] from rfl] at HWW
   cases F with
  | some f =>
   have HE:=aH (show RES=.error f from HI.o);have HC1:=aH (show Calls Tryz.prog 79 #[.pointer (some ⟨g,0,none⟩),.int .i64 1,.string ⟨#[105,109,112,111,114,116]⟩] wr fun e w'=>e=.returned (.bool false)/\Below wr.heap.size wr w' from HWC.o);have HC2:=aH (show ∀ W,Pd W g lo lc L kk (some f)->Calls Tryz.prog 79 #[.pointer (some ⟨g,0,none⟩),.int .i64 1,.string ⟨#[119,97,116,101,114]⟩] W fun e w'=>e=.returned (.bool false)/\Below W.heap.size W w' from HWW.o);go_wp2_with fail;refine HC1.o.mono ?_;rintro e wa ⟨rfl,hb⟩;have HA1:=aH (HA.o.under hb HA.o.lt);have HB1:=aH (HB.o.under hb HB.o.lt);have HU1:=aH (HU.o.then_below hb);have HP1:=aH (HP.o.below hb);clear hb HA HB HU HP;go_wp2_with fail;refine (HC2.o _ HP1.o).mono ?_;rintro e wb ⟨rfl,hb⟩;have HA2:=aH (HA1.o.under hb HA1.o.lt);have HB2:=aH (HB1.o.under hb HB1.o.lt);have HU2:=aH (HU1.o.then_below hb);have HP2:=aH (HP1.o.below hb);clear hb HA1 HB1 HU1 HP1;obtain ⟨a0,a1,a2,a3,a4,a5,a6,a7,a8,a9,aA⟩:=HA2.o.elev;have al:=HA2.o.lt;obtain ⟨b0,b1,b2,b3,b4,b5,b6,b7,b8,b9,bA⟩:=HB2.o.elev;obtain ⟨f0,f1,f2,f3,f4,f5,f6,f7,f8,f9,fA⟩:=HB2.o.elevf;have bl:=HB2.o.lt;go_wp2;rw [mZ];have HF:=HB2.o.putEl (.string nm) (.slice io im.length ic) (.bool false) (.int .i64 0) (.string ⟨#[]⟩) (.int .u64 0) (.int .u64 0) (.int .u64 0) (.int .u64 0) (.slice none 0 0) (.slice none 0 0);have HBW:=aH (But.setEl wb B (.string nm) (.slice io im.length ic) (.bool false) (.int .i64 0) (.string ⟨#[]⟩) (.int .u64 0) (.int .u64 0) (.int .u64 0) (.int .u64 0) (.slice none 0 0) (.slice none 0 0));have HU9:=aH (HU2.o.trans HBW.o (fun j hj e=>by have:=HN.o;omega));have HP9:=aH (Pd.butx HH.o HU9.o HP2.o HBW.o (by have:=HN.o;omega));clear a0 a1 a2 a3 a4 a5 a6 a7 a8 a9 aA al b0 b1 b2 b3 b4 b5 b6 b7 b8 b9 bA f0 f1 f2 f3 f4 f5 f6 f7 f8 f9 fA bl;generalize setEl _ B _ _ _ _ _ _ _ _ _ _ _=w99 at *;obtain ⟨z0,z1,z2,z3,z4,z5,z6,z7,z8,z9,zA⟩:=HF.elev;refine bodyPost_ret (by simp [results,Tryz.results47,go_sem,z0,z1,z2,z3,z4,z5,z6,z7,z8,z9,zA];rfl) rfl ?_;rw [HE.o,HN.o.2.1];exact ⟨HU9.o,⟨nm,im,false,ex0,[]⟩,io,ic,none,0,rfl,HIC.o,kk,HK.o,HP9.o⟩
  | none =>
   obtain ⟨f,hf,hff⟩:=HI.o;have HGO:=aH (hf.trans (B7w L nm (by have:=HK.o;omega) im kk));have HFF:=aH hff;obtain ⟨z,hz⟩:∃ z,wdB L kk 1 [105,109,112,111,114,116]=z:=⟨_,rfl⟩;obtain ⟨z2,hz2⟩:∃ z,wdB L kk 1 [119,97,116,101,114]=z:=⟨_,rfl⟩;have HZ:=aH hz;have HZ2:=aH hz2;rw [hz] at HWC HGO;rw [hz2] at HWW;have HC1:=aH (show Calls Tryz.prog 79 #[.pointer (some ⟨g,0,none⟩),.int .i64 1,.string ⟨#[105,109,112,111,114,116]⟩] wr fun e w'=>e=.returned (.bool z)/\Below wr.heap.size wr w' from HWC.o);have HC2:=aH (show ∀ W,Pd W g lo lc L kk none->Calls Tryz.prog 79 #[.pointer (some ⟨g,0,none⟩),.int .i64 1,.string ⟨#[119,97,116,101,114]⟩] W fun e w'=>e=.returned (.bool z2)/\Below W.heap.size W w' from HWW.o);obtain ⟨S,hS,hWi⟩:=HW.o;have HSS:=aH hS;have HWI:=aH hWi;clear hf hff hz hz2 hS hWi HWC HWW HI HW;go_wp2_with fail;refine HC1.o.mono ?_;rintro e wa ⟨rfl,hb⟩;have HWI1:=aH (HWI.o.below hb);have HSS1:=aH (show ∀ b,S b->B < b/\b < wa.heap.size from fun b hb'=>⟨(HSS.o b hb').1,aL (HSS.o b hb').2 hb.size⟩);have HA1:=aH (HA.o.under hb HA.o.lt);have HB1:=aH (HB.o.under hb HB.o.lt);have HU1:=aH (HU.o.then_below hb);have HP1:=aH (HP.o.below hb);clear hb HA HB HU HP;clear HC1 HWI HSS
   cases z
   case false =>
    have HS2:=aH (show RES=BG L nm im kk from HGO.o.trans (if_neg (by decide)));have HNR1:=aH ((A0I HWI1.o).mono (T:=fun b=>B < b) fun b _ h=>(HSS1.o b h).1);clear HGO HWI1 HSS1;go_wp2_with fail;refine (HC2.o _ HP1.o).mono ?_;rintro e wb ⟨rfl,hb⟩;have HNR2:=aH (HNR1.o.but (But.of_below (S:=fun _=>False) hb) (fun _ _ _ h=>h));have HA2:=aH (HA1.o.under hb HA1.o.lt);have HB2:=aH (HB1.o.under hb HB1.o.lt);have HU2:=aH (HU1.o.then_below hb);have HP2:=aH (HP1.o.below hb);clear hb HNR1 HA1 HB1 HU1 HP1
    cases z2
    case false =>
     have HE:=aH (show RES=.ok (⟨nm,im,false,ex0,[]⟩,kk) from by rw [HS2.o];unfold BG;rw [HZ2.o];rfl);obtain ⟨a0,a1,a2,a3,a4,a5,a6,a7,a8,a9,aA⟩:=HA2.o.elev;have al:=HA2.o.lt;obtain ⟨b0,b1,b2,b3,b4,b5,b6,b7,b8,b9,bA⟩:=HB2.o.elev;obtain ⟨f0,f1,f2,f3,f4,f5,f6,f7,f8,f9,fA⟩:=HB2.o.elevf;have bl:=HB2.o.lt;go_wp2;rw [mZ];have HF:=HB2.o.putEl (.string nm) (.slice io im.length ic) (.bool false) (.int .i64 0) (.string ⟨#[]⟩) (.int .u64 0) (.int .u64 0) (.int .u64 0) (.int .u64 0) (.slice none 0 0) (.slice none 0 0);have HBW:=aH (But.setEl wb B (.string nm) (.slice io im.length ic) (.bool false) (.int .i64 0) (.string ⟨#[]⟩) (.int .u64 0) (.int .u64 0) (.int .u64 0) (.int .u64 0) (.slice none 0 0) (.slice none 0 0));have HU9:=aH (HU2.o.trans HBW.o (fun j hj e=>by have:=HN.o;omega));have HP9:=aH (Pd.butx HH.o HU9.o HP2.o HBW.o (by have:=HN.o;omega));clear a0 a1 a2 a3 a4 a5 a6 a7 a8 a9 aA al b0 b1 b2 b3 b4 b5 b6 b7 b8 b9 bA f0 f1 f2 f3 f4 f5 f6 f7 f8 f9 fA bl;generalize setEl _ B _ _ _ _ _ _ _ _ _ _ _=w99 at *;obtain ⟨z0,z1,z2,z3,z4,z5,z6,z7,z8,z9,zA⟩:=HF.elev;refine bodyPost_ret (by simp [results,Tryz.results47,go_sem,z0,z1,z2,z3,z4,z5,z6,z7,z8,z9,zA];rfl) rfl ?_;rw [HE.o,HN.o.2.1];exact ⟨HU9.o,⟨nm,im,false,ex0,[]⟩,io,ic,none,0,rfl,HIC.o,rfl,HK.o,HP9.o,(HNR2.o.but HBW.o (fun j _ hj e=>by omega)).mono (fun b _ hb=>by have:=HN.o;omega),0,rfl⟩
    case true =>
     have hk1N:kk + 1<=NN:=A4w HBB.o (by decide) HZ2.o;have hk1L:kk + 1 < L.length:=(by omega);obtain ⟨rb,hrb⟩:∃ r,uW L (kk + 1)=r:=⟨_,rfl⟩;have HRB:=aH hrb;have HS3:=aH (show RES=C0c nm im rb from by rw [HS2.o,XV,HZ2.o,<- hrb];rfl);have HBC:=aH (HBO.o (kk + 1) hk1L);rw [hrb] at HBC;obtain ⟨c0,c1,c2,c3,c4,c5,cg⟩:=HP2.o.1.six_r;obtain ⟨d1,d2,d3,d4,d5⟩:=HP2.o.1.six_f;have hw1:IntKind.i64.wrap ((kk:Int) + 1)=(kk:Int) + 1:=wI;have HP3:=aH (HP2.o.at1 (kk + 1) (.int .i64 ((kk:Int) + 1)) (by simp));have HU3:=aH (HU2.o.setCell (p:=⟨g,1,none⟩) (fun _=>rfl) (.int .i64 ((kk:Int) + 1)));have HA3:=aH (HA2.o.off (p:=⟨g,1,none⟩) ne3 (.int .i64 ((kk:Int) + 1)));have HB3:=aH (HB2.o.off (p:=⟨g,1,none⟩) ne5 (.int .i64 ((kk:Int) + 1)));have HNR3:=aH (HNR2.o.but (But.put wb g 1 (.int .i64 ((kk:Int) + 1))) (fun j _ hj e=>by have:=HN.o;omega));go_upto_region 16 with fail;clear c0 c1 c2 c3 c4 c5 cg d1 d2 d3 d4 d5 hw1 HP2 HU2 HA2 HB2 HNR2 HS2 hrb;generalize World.setCell wb _ _=wc at *;go_wp2_with fail;refine (HBC.o _ HP3.o).mono ?_;rintro e wd ⟨hbu,X2,ko,kc,rfl,hq⟩;unfold exv;have HA4:=aH (HA3.o.but hbu ne3);have HB4:=aH (HB3.o.but hbu ne5);have HU4:=aH (HU3.o.trans hbu (fun _ _ h=>h));have HNR4:=aH (HNR3.o.but hbu (fun j _ hj e=>by have:=HN.o;omega));have HQ4:=aH hq;have HBS:=aH (show B < wc.heap.size from HB3.o.lt);clear hbu hq HP3 HU3 HA3 HB3 HNR3 HBC;have HA5:=aH ((((((((HA4.o.put 2 (.bool true)).put 3 (.int .i64 X2.op)).put 4 (.string X2.text)).put 5 (.int .u64 X2.s0)).put 6 (.int .u64 X2.s1)).put 7 (.int .u64 X2.s2)).put 8 (.int .u64 X2.s3)).put 9 (.slice ko X2.kids.length kc));have HBA:=aH (((((((((But.refl (fun j=>j=A) wd).setCell (p:=⟨A,2,none⟩) (fun _=>rfl) (.bool true)).setCell (p:=⟨A,3,none⟩) (fun _=>rfl) (.int .i64 X2.op)).setCell (p:=⟨A,4,none⟩) (fun _=>rfl) (.string X2.text)).setCell (p:=⟨A,5,none⟩) (fun _=>rfl) (.int .u64 X2.s0)).setCell (p:=⟨A,6,none⟩) (fun _=>rfl) (.int .u64 X2.s1)).setCell (p:=⟨A,7,none⟩) (fun _=>rfl) (.int .u64 X2.s2)).setCell (p:=⟨A,8,none⟩) (fun _=>rfl) (.int .u64 X2.s3)).setCell (p:=⟨A,9,none⟩) (fun _=>rfl) (.slice ko X2.kids.length kc));obtain ⟨a0,a1,a2,a3,a4,a5,a6,a7,a8,a9,aA⟩:=HA4.o.elev;obtain ⟨f0,f1,f2,f3,f4,f5,f6,f7,f8,f9,fA⟩:=HA4.o.elevf;have al:=HA4.o.lt;go_upto_region 17 with fail;clear a0 a1 a2 a3 a4 a5 a6 a7 a8 a9 aA f0 f1 f2 f3 f4 f5 f6 f7 f8 f9 fA al;generalize World.setCell (World.setCell (World.setCell (World.setCell (World.setCell (World.setCell (World.setCell (World.setCell wd _ _) _ _) _ _) _ _) _ _) _ _) _ _) _ _=we at *;have HB5:=aH (HB4.o.but HBA.o ne2);have HU5:=aH (HU4.o.trans HBA.o (fun j hj e=>by have:=HN.o;omega));have HNR5:=aH (HNR4.o.but HBA.o (fun j _ hj e=>by have:=HN.o;omega))
     cases rb
     case error f' =>
      have HE:=aH (show RES=.error f' from HS3.o);obtain ⟨k',hk',hp'⟩:=HQ4.o;have HP5:=aH (Pd.butx HH.o HU5.o hp' HBA.o ne4);have HK5:=aH (show k'<=NN from by omega);clear hp' ;obtain ⟨a0,a1,a2,a3,a4,a5,a6,a7,a8,a9,aA⟩:=HA5.o.elev;have al:=HA5.o.lt;obtain ⟨b0,b1,b2,b3,b4,b5,b6,b7,b8,b9,bA⟩:=HB5.o.elev;obtain ⟨f0,f1,f2,f3,f4,f5,f6,f7,f8,f9,fA⟩:=HB5.o.elevf;have bl:=HB5.o.lt;go_wp2;rw [mZ];have HF:=HB5.o.putEl (.string nm) (.slice io im.length ic) (.bool true) (.int .i64 X2.op) (.string X2.text) (.int .u64 X2.s0) (.int .u64 X2.s1) (.int .u64 X2.s2) (.int .u64 X2.s3) (.slice ko X2.kids.length kc) (.slice none 0 0);have HBW:=aH (But.setEl we B (.string nm) (.slice io im.length ic) (.bool true) (.int .i64 X2.op) (.string X2.text) (.int .u64 X2.s0) (.int .u64 X2.s1) (.int .u64 X2.s2) (.int .u64 X2.s3) (.slice ko X2.kids.length kc) (.slice none 0 0));have HU9:=aH (HU5.o.trans HBW.o (fun j hj e=>by have:=HN.o;omega));have HP9:=aH (Pd.butx HH.o HU9.o HP5.o HBW.o (by have:=HN.o;omega));clear a0 a1 a2 a3 a4 a5 a6 a7 a8 a9 aA al b0 b1 b2 b3 b4 b5 b6 b7 b8 b9 bA f0 f1 f2 f3 f4 f5 f6 f7 f8 f9 fA bl;generalize setEl _ B _ _ _ _ _ _ _ _ _ _ _=w99 at *;obtain ⟨z0,z1,z2,z3,z4,z5,z6,z7,z8,z9,zA⟩:=HF.elev;refine bodyPost_ret (by simp [results,Tryz.results47,go_sem,z0,z1,z2,z3,z4,z5,z6,z7,z8,z9,zA];rfl) rfl ?_;rw [HE.o,HN.o.2.1];exact ⟨HU9.o,⟨nm,im,true,X2,[]⟩,io,ic,ko,kc,rfl,HIC.o,k',HK5.o,HP9.o⟩
     case ok pq =>
      obtain ⟨x,m⟩:=pq;obtain ⟨hp',hx,n2,hT⟩:=HQ4.o;subst hx;have HE:=aH (show RES=.ok (⟨nm,im,true,x,[]⟩,m) from HS3.o);have HP5:=aH (Pd.butx HH.o HU5.o hp' HBA.o ne4);have HMN:=aH (A5H HBB.o HRB.o);have HT5:=aH (dD.but HBA.o (fun j hj=>by have:=HBS.o;have:=HN.o;omega) hT);clear hp' hT;obtain ⟨a0,a1,a2,a3,a4,a5,a6,a7,a8,a9,aA⟩:=HA5.o.elev;have al:=HA5.o.lt;obtain ⟨b0,b1,b2,b3,b4,b5,b6,b7,b8,b9,bA⟩:=HB5.o.elev;obtain ⟨f0,f1,f2,f3,f4,f5,f6,f7,f8,f9,fA⟩:=HB5.o.elevf;have bl:=HB5.o.lt;go_wp2;rw [mZ];have HF:=HB5.o.putEl (.string nm) (.slice io im.length ic) (.bool true) (.int .i64 x.op) (.string x.text) (.int .u64 x.s0) (.int .u64 x.s1) (.int .u64 x.s2) (.int .u64 x.s3) (.slice ko x.kids.length kc) (.slice none 0 0);have HBW:=aH (But.setEl we B (.string nm) (.slice io im.length ic) (.bool true) (.int .i64 x.op) (.string x.text) (.int .u64 x.s0) (.int .u64 x.s1) (.int .u64 x.s2) (.int .u64 x.s3) (.slice ko x.kids.length kc) (.slice none 0 0));have HU9:=aH (HU5.o.trans HBW.o (fun j hj e=>by have:=HN.o;omega));have HP9:=aH (Pd.butx HH.o HU9.o HP5.o HBW.o (by have:=HN.o;omega));clear a0 a1 a2 a3 a4 a5 a6 a7 a8 a9 aA al b0 b1 b2 b3 b4 b5 b6 b7 b8 b9 bA f0 f1 f2 f3 f4 f5 f6 f7 f8 f9 fA bl;generalize setEl _ B _ _ _ _ _ _ _ _ _ _ _=w99 at *;obtain ⟨z0,z1,z2,z3,z4,z5,z6,z7,z8,z9,zA⟩:=HF.elev;refine bodyPost_ret (by simp [results,Tryz.results47,go_sem,z0,z1,z2,z3,z4,z5,z6,z7,z8,z9,zA];rfl) rfl ?_;rw [HE.o,HN.o.2.1];exact ⟨HU9.o,⟨nm,im,true,x,[]⟩,io,ic,ko,kc,rfl,HIC.o,rfl,HMN.o.2,HP9.o,(HNR5.o.but HBW.o (fun j _ hj e=>by omega)).mono (fun b _ hb=>by have:=HN.o;omega),n2,dD.low (by have:=HBS.o;have:=HN.o;omega) (dD.but HBW.o (fun j hj=>by have:=HBS.o;omega) HT5.o)⟩
   case true =>
    have HS2:=aH (HGO.o.trans (if_pos rfl));have hk1N:kk + 1<=NN:=A4w HBB.o (by decide) HZ.o;have hk1L:kk + 1 < L.length:=(by omega);obtain ⟨n,hnn⟩:∃ n,im.length=n:=⟨_,rfl⟩;have HIN:=aH hnn;rw [hnn] at him HA1 HWI1 HS2;try rw [hnn]
    clear hnn HGO HC2;by_cases h4:n=4
    · have e4:((n:Int) == 4)=true:=(by simp [h4]);have HE:=aH (show RES=.error (gH L 3 kk) from HS2.o.trans (if_pos h4));have HUc:=HU1;obtain ⟨a0,a1,a2,a3,a4,a5,a6,a7,a8,a9,aA⟩:=HA1.o.elev;have al:=HA1.o.lt;clear h4;go_wp2_with fail;refine (HFL.o 3 (by decide) kk (by omega) _ HP1.o).mono ?_;rintro e w7 ⟨rfl,hbu,hp⟩;have HA7:=aH (HA1.o.but hbu (by have:=HN.o;omega));have HB7:=aH (HB1.o.but hbu (by have:=HN.o;omega));have HUf:=aH (HUc.o.trans hbu (fun _ _ h=>h));have HPf:=aH (show Pd w7 g lo lc L (kk) (some (gH L 3 (kk))) from hp);clear hbu hp;clear a0 a1 a2 a3 a4 a5 a6 a7 a8 a9 aA al;obtain ⟨a0,a1,a2,a3,a4,a5,a6,a7,a8,a9,aA⟩:=HA7.o.elev;have al:=HA7.o.lt;obtain ⟨b0,b1,b2,b3,b4,b5,b6,b7,b8,b9,bA⟩:=HB7.o.elev;obtain ⟨f0,f1,f2,f3,f4,f5,f6,f7,f8,f9,fA⟩:=HB7.o.elevf;have bl:=HB7.o.lt;go_wp2;rw [mZ];have HF:=HB7.o.putEl (.string nm) (.slice io n ic) (.bool false) (.int .i64 0) (.string ⟨#[]⟩) (.int .u64 0) (.int .u64 0) (.int .u64 0) (.int .u64 0) (.slice none 0 0) (.slice none 0 0);have HBW:=aH (But.setEl w7 B (.string nm) (.slice io n ic) (.bool false) (.int .i64 0) (.string ⟨#[]⟩) (.int .u64 0) (.int .u64 0) (.int .u64 0) (.int .u64 0) (.slice none 0 0) (.slice none 0 0));have HU9:=aH (HUf.o.trans HBW.o (fun j hj e=>by have:=HN.o;omega));have HP9:=aH (Pd.butx HH.o HU9.o HPf.o HBW.o (by have:=HN.o;omega));clear a0 a1 a2 a3 a4 a5 a6 a7 a8 a9 aA al b0 b1 b2 b3 b4 b5 b6 b7 b8 b9 bA f0 f1 f2 f3 f4 f5 f6 f7 f8 f9 fA bl;generalize setEl _ B _ _ _ _ _ _ _ _ _ _ _=w99 at *;obtain ⟨z0,z1,z2,z3,z4,z5,z6,z7,z8,z9,zA⟩:=HF.elev;refine bodyPost_ret (by simp [results,Tryz.results47,go_sem,z0,z1,z2,z3,z4,z5,z6,z7,z8,z9,zA];rfl) rfl ?_;rw [HE.o,HN.o.2.1];exact ⟨HU9.o,⟨nm,im,false,ex0,[]⟩,io,ic,none,0,by rw [<- HIN.o];rfl,HIC.o,kk,HK.o,HP9.o⟩
    ·
     have e4:((n:Int) == 4)=false:=aN.2 (by omega);have HS3:=aH (HS2.o.trans (if_neg h4));have HQ1:=aH (A2W (k:=kk + 1) HS3.o);have HK1:=aH (B1g (l:=nm :: im) HBB.o hk1N);have HG1:=aH (B8H L (nm :: im) (kk + 1));have HNC:=aH (fun (ao:Option Addr) (cap:Nat) W hW (hN:gI W ao (nm :: im))=>HNM.o (nm :: im) ao cap (by rw [List.length_cons];have:=HIN.o;omega) (kk + 1) hk1L W hW hN);obtain ⟨r,hr⟩:∃ r,pV L (nm :: im) (kk + 1)=r:=⟨_,rfl⟩;rw [hr] at HNC HQ1 HK1 HG1;obtain ⟨x,hx⟩:∃ x,(nmG (kk + 1) r).1=x:=⟨_,rfl⟩;obtain ⟨k1,hk1⟩:∃ x,(nmG (kk + 1) r).2.1=x:=⟨_,rfl⟩;obtain ⟨F1,hF1⟩:∃ x,(nmG (kk + 1) r).2.2=x:=⟨_,rfl⟩;rw [hx,hk1,hF1] at HNC HQ1;rw [hk1] at HK1 HG1;have him2:(n:Int)<=3:=(by omega);have HNN2:=aH (And.intro h4 him2);clear hr hx hk1 hF1 HS2 HS3 h4;obtain ⟨c0,c1,c2,c3,c4,c5,cg⟩:=HP1.o.1.six_r;obtain ⟨d1,d2,d3,d4,d5⟩:=HP1.o.1.six_f;have hw1:IntKind.i64.wrap ((kk:Int) + 1)=(kk:Int) + 1:=wI;have hbp:=But.put wa g 1 (.int .i64 ((kk:Int) + 1));have HP2:=aH ((HP1.o.at1 (kk + 1) (.int .i64 ((kk:Int) + 1)) (by simp)).below (Below.refl _ _).drew);have HU2:=aH (HU1.o.setCell (p:=⟨g,1,none⟩) (fun _=>rfl) (.int .i64 ((kk:Int) + 1))).drew;have HA2:=aH (HA1.o.off (p:=⟨g,1,none⟩) ne3 (.int .i64 ((kk:Int) + 1))).on_drew;have HB2:=aH (HB1.o.off (p:=⟨g,1,none⟩) ne5 (.int .i64 ((kk:Int) + 1))).on_drew;have HWI2:=aH (show Win S 9 1 (wa.setCell ⟨g,1,none⟩ (.int .i64 ((kk:Int) + 1))).drew _ _ _ from HWI1.o.keep hbp.drew (fun j _ hs e=>by have:=(HSS1.o j hs).1;have:=HN.o;omega));have HSS2:=aH (show ∀ b,S b->B < b/\b < (wa.setCell ⟨g,1,none⟩ (.int .i64 ((kk:Int) + 1))).drew.heap.size from fun b hb=>⟨(HSS1.o b hb).1,by have:=(HSS1.o b hb).2;simpa [World.setCell] using this⟩);obtain ⟨a0,a1,a2,a3,a4,a5,a6,a7,a8,a9,aA⟩:=HA1.o.elev;have al:=HA1.o.lt;go_upto_region 12 with fail;clear c0 c1 c2 c3 c4 c5 cg d1 d2 d3 d4 d5 hw1 hbp HP1 HU1 HA1 HB1 HWI1 HSS1 a0 a1 a2 a3 a4 a5 a6 a7 a8 a9 aA al;refine lI (fun Wx=>A < Wx.heap.size/\Wx.cell? ⟨A,0,none⟩=some (.string nm)/\Wx.cell? ⟨A,1,none⟩=some (.slice io n ic)) 13 (by kernel_rfl) ?_;generalize World.drew _=wb at *;have HS:=aH (show A < wb.heap.size/\wb.cell? ⟨A,0,none⟩=some (.string nm)/\wb.cell? ⟨A,1,none⟩=some (.slice io n ic) from ⟨HA2.o.lt,HA2.o.cell 0,HA2.o.cell 1⟩);refine bK.take (i:=0) (v:=?_) rfl (by kernel_rfl) (by kernel_rfl) (by kernel_rfl) (by kernel_rfl) (fun _ _ _ h=>h) (Or.inl ⟨by rfl,?_⟩) HS.o ?_;rotate_left
     · intro Wx hWx;obtain ⟨q0,q1,q2⟩:=hWx;go_simp;try with_reducible rfl
     go_simp;refine bK.take (i:=1) (v:=?_) rfl (by kernel_rfl) (by kernel_rfl) (by kernel_rfl) (by kernel_rfl) (fun _ _ _ h=>h) (Or.inl ⟨by rfl,?_⟩) HS.o ?_;rotate_left
     · intro Wx hWx;obtain ⟨q0,q1,q2⟩:=hWx;go_simp;try with_reducible rfl
     go_simp;refine bK.take (i:=2) (v:=?_) rfl (by kernel_rfl) (by kernel_rfl) (by kernel_rfl) (by kernel_rfl) (fun _ _ _ h=>h) (Or.inl ⟨by rfl,?_⟩) HS.o ?_;rotate_left
     · intro Wx hWx;obtain ⟨q0,q1,q2⟩:=hWx;go_simp;try with_reducible rfl
     go_simp;refine bK.take (i:=3) (v:=?_) rfl (by kernel_rfl) (by kernel_rfl) (by kernel_rfl) (by kernel_rfl) (fun _ _ _ h=>h) (Or.inl ⟨by rfl,?_⟩) HS.o ?_;rotate_left
     · intro Wx hWx;obtain ⟨q0,q1,q2⟩:=hWx;go_simp;try with_reducible rfl
     go_simp;refine bK.take (i:=4) (v:=?_) rfl (by kernel_rfl) (by kernel_rfl) (by kernel_rfl) (by kernel_rfl) (fun _ _ _ h=>h) (Or.inl ⟨by rfl,?_⟩) HS.o ?_;rotate_left
     · intro Wx hWx;obtain ⟨q0,q1,q2⟩:=hWx;go_simp;try with_reducible rfl
     go_simp;refine bK.take (i:=6) (v:=?_) rfl (by kernel_rfl) (by kernel_rfl) (by kernel_rfl) (by kernel_rfl) (fun _ _ _ h=>h) (Or.inl ⟨by rfl,?_⟩) HS.o ?_;rotate_left
     · intro Wx hWx;obtain ⟨q0,q1,q2⟩:=hWx;go_simp;try with_reducible rfl
     go_simp;refine bK.take (i:=7) (v:=?_) rfl (by kernel_rfl) (by kernel_rfl) (by kernel_rfl) (by kernel_rfl) (fun _ _ _ h=>h) (Or.inl ⟨by rfl,?_⟩) HS.o ?_;rotate_left
     · intro Wx hWx;obtain ⟨q0,q1,q2⟩:=hWx;go_simp;try with_reducible rfl
     go_simp;obtain ⟨i0,hi,hz0,hz1,hz2⟩:=cZ uZ;have HBG:=aH (show B < wb.heap.size from HB2.o.lt);have hbl1:Below wb.heap.size wb (wb.alloc (.cells #[.string nm] 9)):=bA _;refine bK.one (i:=5) (by kernel_rfl) (aY (v:=.slice (some ⟨wb.heap.size,0,none⟩) 1 1) (w':=wb.alloc (.cells #[.string nm] 9)) rfl (by kernel_rfl) (by go_simp) ?_);have HO3:=aH (Own.fresh wb 9 [.string nm]);have HA3:=aH (HA2.o.under hbl1 HA2.o.lt);have HB3:=aH (HB2.o.under hbl1 HB2.o.lt);have HP3:=aH (HP2.o.below hbl1);have HU3:=aH (HU2.o.then_below hbl1);have HWI3:=aH (HWI2.o.below hbl1);have HZ3:=aH (show wb.heap.size < (wb.alloc (.cells #[.string nm] 9)).heap.size from by simp);clear hbl1 HA2 HB2 HP2 HU2 HWI2;generalize wb.alloc (.cells #[.string nm] 9)=wc at *;generalize wb.heap.size=G1 at *;clear HS;have HS:=aH (show A < wc.heap.size/\wc.cell? ⟨A,0,none⟩=some (.string nm)/\wc.cell? ⟨A,1,none⟩=some (.slice io n ic) from ⟨HA3.o.lt,HA3.o.cell 0,HA3.o.cell 1⟩);refine ⟨.inr HS.o,?_⟩;go_simp;refine bK.one (i:=8) (by kernel_rfl) (Bh rfl (by kernel_rfl) _ _ 22 22 rfl (fun b=>b=G1) 9 i0 _ 1 16 Tryz.underlying22 hi hz0 hz1 hz2 rfl (by decide) (.slice (some ⟨G1,0,none⟩) 1 1) 1 [.string nm] rfl (Win.one HO3.o rfl) (.slice io n ic) n (im.map Value.string) rfl (by have:=Src.ofNames (cap:=ic) (oM HWI3.o);rw [HIN.o] at this;exact this) (by unfold maxLen;omega) (by omega) ?_);intro v2 wd hw2 hb2;have HBGn:B < G1:=HBG.o;have HA4:=aH (HA3.o.but hb2 (fun e=>by have e:A=G1:=e;have:=HN.o;omega));have HB4:=aH (HB3.o.but hb2 (fun e=>by have e:B=G1:=e;have:=HN.o;omega));have HU4:=aH (HU3.o.trans hb2 (fun j hj e=>by have e:j=G1:=e;have:=HN.o;omega));have HP4:=aH (Pd.butx HH.o HU4.o HP3.o hb2 (fun e=>by have e:g=G1:=e;have:=HN.o;omega));have HWI4:=aH (HWI3.o.keep hb2 (fun j hj hs e=>by have e:j=G1:=e;have:=(HSS2.o j hs).2;omega));clear HBGn;have HZ4:=aH (show wc.heap.size<=wd.heap.size from hb2.size);obtain ⟨ao2,cap2,hv2,-⟩:=hw2.form;subst hv2;have HN2:=aH (show gI wd ao2 (nm :: im) from oM (c:=cap2) (n:=1 + n) (S:=fun g=>g=G1\/wc.heap.size<=g) (l:=nm :: im) hw2);clear hb2 hw2 HA3 HB3 HP3 HU3 HWI3 HO3;clear HS;have HS:=aH (show A < wd.heap.size/\wd.cell? ⟨A,0,none⟩=some (.string nm)/\wd.cell? ⟨A,1,none⟩=some (.slice io n ic) from ⟨HA4.o.lt,HA4.o.cell 0,HA4.o.cell 1⟩);refine ⟨.inr HS.o,?_⟩;go_simp;refine bK.one (i:=9) (by kernel_rfl) (bB (f:=48) (vs:=#[.pointer (some ⟨g,0,none⟩),.slice ao2 (nm :: im).length cap2]) rfl (by kernel_rfl) (by rw [List.length_cons,HIN.o,Nat.add_comm];go_simp) ?_);refine (HNC.o ao2 cap2 wd HP4.o HN2.o).mono ?_;rintro e we ⟨rfl,hp,hbu⟩;have HP5:=aH hp;have HA5:=aH (HA4.o.but hbu ne3);have HB5:=aH (HB4.o.but hbu ne5);have HU5:=aH (HU4.o.trans hbu (fun _ _ h=>h));have HWI5:=aH (HWI4.o.keep hbu (fun j hj hs e=>by have:=(HSS2.o j hs).1;have:=HN.o;omega));have HZ5:=aH (show wd.heap.size<=we.heap.size from hbu.size);clear hp hbu HP4 HA4 HB4 HU4 HWI4 HN2 HNC;clear HS;have HS:=aH (show A < we.heap.size/\we.cell? ⟨A,0,none⟩=some (.string nm)/\we.cell? ⟨A,1,none⟩=some (.slice io n ic) from ⟨HA5.o.lt,HA5.o.cell 0,HA5.o.cell 1⟩);refine ⟨_,rfl,.inr HS.o,?_⟩;go_simp;have hbl1:Below we.heap.size we (we.alloc (.cells #[.string x] 9)):=bA _;refine bK.one (i:=10) (by kernel_rfl) (aY (v:=.slice (some ⟨we.heap.size,0,none⟩) 1 1) (w':=we.alloc (.cells #[.string x] 9)) rfl (by kernel_rfl) (by go_simp) ?_);have HO6:=aH (Own.fresh we 9 [.string x]);have HA6':=aH (HA5.o.under hbl1 HA5.o.lt);have HB6':=aH (HB5.o.under hbl1 HB5.o.lt);have HP6':=aH (HP5.o.below hbl1);have HU6':=aH (HU5.o.then_below hbl1);have HWI6:=aH (HWI5.o.below hbl1);have HZ6:=aH (show we.heap.size < (we.alloc (.cells #[.string x] 9)).heap.size from by simp);clear hbl1 HA5 HB5 HP5 HU5 HWI5;generalize we.alloc (.cells #[.string x] 9)=wf at *;generalize we.heap.size=G2 at *;clear HS;have HS:=aH (show A < wf.heap.size/\wf.cell? ⟨A,0,none⟩=some (.string nm)/\wf.cell? ⟨A,1,none⟩=some (.slice io n ic) from ⟨HA6'.o.lt,HA6'.o.cell 0,HA6'.o.cell 1⟩);refine ⟨.inr HS.o,?_⟩;go_simp;refine bK.one (i:=11) (by kernel_rfl) (Bh rfl (by kernel_rfl) _ _ 22 22 rfl S 9 i0 _ 1 16 Tryz.underlying22 hi hz0 hz1 hz2 rfl (by decide) (.slice io n ic) n (im.map Value.string) rfl HWI6.o (.slice (some ⟨G2,0,none⟩) 1 1) 1 [.string x] rfl (Src.ofNames (cap:=1) (l:=[x]) (oM (Win.one HO6.o rfl))) (by unfold maxLen;omega) (by omega) ?_);intro v3 wg hw3 hb3;have HSA:=aH (show ∀ b,S b->B < b from fun b hb=>(HSS2.o b hb).1);have HA7:=aH (HA6'.o.but hb3 (fun hs=>by have:=HSA.o _ hs;have:=HN.o;omega));have HB7:=aH (HB6'.o.but hb3 (fun hs=>by have:=HSA.o _ hs;omega));have HU7:=aH (HU6'.o.trans hb3 (fun j hj hs=>by have:=HSA.o _ hs;have:=HN.o;omega));have HP7:=aH (Pd.butx HH.o HU7.o HP6'.o hb3 (fun hs=>by have:=HSA.o _ hs;have:=HN.o;omega));obtain ⟨io',ic',hv3,-⟩:=hw3.form;subst hv3;have HWI7:=aH hw3;have HZ7:=aH (show wf.heap.size<=wg.heap.size from hb3.size);clear hw3 hb3 HA6' HB6' HU6' HP6' HWI6 HO6;clear HS;have HS:=aH (show A < wg.heap.size/\wg.cell? ⟨A,0,none⟩=some (.string nm)/\wg.cell? ⟨A,1,none⟩=some (.slice io n ic) from ⟨HA7.o.lt,HA7.o.cell 0,HA7.o.cell 1⟩);refine ⟨.inr HS.o,?_⟩;go_simp;refine bK.take (i:=12) (v:=?_) rfl (by kernel_rfl) (by kernel_rfl) (by kernel_rfl) (by kernel_rfl) (fun _ _ _ h=>h) (Or.inl ⟨by rfl,?_⟩) HS.o ?_;rotate_left
     · intro Wx hWx;obtain ⟨q0,q1,q2⟩:=hWx;go_simp;try with_reducible rfl
     go_simp
     have HRUN:=aH (show (Instr.storeAt 22 (.pointer (some ⟨A,1,none⟩)) (.slice io' (n + 1) ic')).run Tryz.prog wg=.ok () (wg.setCell ⟨A,1,none⟩ (.slice io' (n + 1) ic')) from by
      obtain ⟨q0,q1,q2⟩:=HS.o;have q3:wg.frozen? ⟨A,1,none⟩=false:=HA7.o.thaw 1
      go_simp)
     have hbp:=But.put wg A 1 (.slice io' (n + 1) ic');have HA8:=aH (HA7.o.put 1 (.slice io' (n + 1) ic'));have HB8:=aH (HB7.o.but hbp ne2);have HU8:=aH (HU7.o.trans hbp (fun j hj e=>by have:=HN.o;omega));have HP8:=aH (Pd.butx HH.o HU8.o HP7.o hbp ne4);have HWI8:=aH (HWI7.o.keep hbp (fun j hj hs e=>by rcases hs with hs | hs;(have:=HSA.o _ hs;have:=HN.o;omega);(have:=HZ3.o;have:=HZ4.o;have:=HZ5.o;have:=HZ6.o;have:=HBG.o;have:=HN.o;omega)));have HZ8:=aH (show wg.heap.size<=(wg.setCell ⟨A,1,none⟩ (.slice io' (n + 1) ic')).heap.size from hbp.size);clear hbp HA7 HB7 HU7 HP7 HWI7;obtain ⟨wh,hwh⟩:∃ wh,wg.setCell ⟨A,1,none⟩ (.slice io' (n + 1) ic')=wh:=⟨_,rfl⟩;rw [hwh] at HRUN HA8 HB8 HU8 HP8 HWI8 HZ8;clear hwh;refine bK.one (i:=13) (by kernel_rfl) (eX rfl (by kernel_rfl) _ _ _ rfl (.pointer (some ⟨A,1,none⟩)) (.slice io' (n + 1) ic') rfl rfl HRUN.o ?_);refine ⟨.inl rfl,?_⟩;refine bK.done (by kernel_rfl) ?_ _;clear HS HRUN;have hk1L2:k1 < L.length:=(by have:=HK1.o;omega);have HSC:=aH (HSG.o ⟨#[59]⟩ k1 hk1L2 F1 wh HP8.o);have HK2:=aH (B3N (s:=[59]) (F:=F1) HBB.o HK1.o);have HG2:=aH (Nat.le_trans HG1.o (B8z L [59] k1 F1));rw [show (⟨#[59]⟩:ByteArray).data.toList=[59] from rfl] at HSC;obtain ⟨k2',hk2⟩:∃ x,(sgG L [59] k1 F1).1=x:=⟨_,rfl⟩;obtain ⟨F2',hF2⟩:∃ x,(sgG L [59] k1 F1).2=x:=⟨_,rfl⟩;rw [hk2,hF2] at HSC HQ1;rw [hk2] at HK2 HG2;clear hk2 hF2;go_wp2_with fail;refine HSC.o.mono ?_;rintro e wi ⟨rfl,hbu,hp⟩;have HP9:=aH hp;have HU9:=aH (HU8.o.trans hbu (fun _ _ h=>h));have HA9:=aH (HA8.o.but hbu ne3);have HB9:=aH (HB8.o.but hbu ne5);have HW9:=aH (HWI8.o.keep hbu (fun j hj hs e=>by rcases hs with hs | hs;(have:=HSA.o _ hs;have:=HN.o;omega);(have:=HZ3.o;have:=HZ4.o;have:=HZ5.o;have:=HZ6.o;have:=HBG.o;have:=HN.o;omega)))
     have HI9:=aH (show ImQ L RES nm (im ++ [x]) k2' F2' from by
      have q:=HQ1.o
      cases F2' with
      | none=>exact ⟨f - 1,q,by have:=HFF.o;have:=HG2.o;omega⟩
      | some f=>exact q)
     have HLN:=aH (show (im ++ [x]).length=n + 1 from by rw [List.length_append,HIN.o];rfl);have HMAP:=aH (show (im ++ [x]).map Value.string=im.map Value.string ++ [.string x] from by simp);clear hbu hp HP8 HU8 HA8 HB8 HWI8 HSC HQ1
     have HWE:=aH (show ∃ S:Nat->Prop,(∀ b,S b->B < b/\b < wi.heap.size)/\Win S 9 1 wi (.slice io' (im ++ [x]).length ic') (im ++ [x]).length ((im ++ [x]).map Value.string) from by
      rw [HLN.o,HMAP.o];refine ⟨fun b=>(S b\/wf.heap.size<=b)/\b < wi.heap.size,fun b hb=>⟨?_,hb.2⟩,HW9.o.mono (fun b hlt hs=>⟨hs,hlt⟩)⟩;rcases hb.1 with hs | hs
      · exact HSA.o b hs
      · have:=HZ3.o;have:=HZ4.o;have:=HZ5.o;have:=HZ6.o;have:=HBG.o;omega)
     have hc1:wi.cell? ⟨g,1,none⟩=some (.int .i64 (k2':Int)):=HP9.o.1.cell 1;have hc0:wr.cell? ⟨g,1,none⟩=some (.int .i64 (kk:Int)):=HPR.o.1.cell 1;go_wp2
     go_roundw
     case rel=>exact ⟨k2',F2',im ++ [x],io',ic',by rw [HLN.o];omega,HK2,HP9,HI9,by rw [HLN.o];exact HA9,HB9,HU9,HWE⟩
     case measure=>rw [hc1,hc0];simp [intOf];have:=HG2.o;omega
end Go.Proofs.YthkdnehgamefiaaGreat
