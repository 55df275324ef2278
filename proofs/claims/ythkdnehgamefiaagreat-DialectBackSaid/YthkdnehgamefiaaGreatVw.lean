import Derived.Test.YthkdnehgamefiaaGreatWx
import Derived.Test.YthkdnehgamefiaaGreatRgR
namespace Go.Proofs.YthkdnehgamefiaaGreat
set_option linter.unusedVariables false
set_option maxRecDepth 1000000
open Go.RowKit Ex
theorem vV {s:ByteArray}:∀ f g k,s.size < f + k->s.size < g + k->skF s f k=skF s g k
 | 0,g,k,h1,h2=>by rw [oP (by omega),oP (by omega)]
 | f + 1,0,k,h1,h2=>by rw [oP (by omega),oP (by omega)]
 | f + 1,g + 1,k,h1,h2=>by
  rw [skF.eq_2,skF.eq_2];split
  ·
   rename_i hk;split
   · exact vV f g (k + 1) (by omega) (by omega)
   ·
    split
    · rename_i h35;have:=Us hk h35;exact vV f g _ (by omega) (by omega)
    · rfl
  · rfl
theorem kN {s:ByteArray} {k:Nat} (hk:k < s.size) (h:yQ (byt s k)=true):skO s k=skO s (k + 1):=by unfold skO;rw [rZ (by omega) hk h,vV (s.size + 1 - 1) (s.size + 1) (k + 1) (by omega) (by omega)]
theorem A2b (s:ByteArray):∃ r,(gU s).data.toList=34 :: r:=by obtain ⟨r,hr⟩:=A2j s;exact ⟨r ++ [34],by rw [Oi,hr];rfl⟩
theorem YW (h:Nat->Bool):∃ r,(dF h).data.toList=91 :: r:=⟨_,Jd h⟩
abbrev Tkn:=Nat × ByteArray × bO
def Tok.k (t:Tok):Tkn:=(t.kd,t.tx,t.st)
def sgT (l:List UInt8):Tkn:=(4,ofL l,set0)
def nmT (t:ByteArray):Tkn:=(1,t,set0)
inductive Lx (U:ByteArray):Nat->List Tkn->Nat->Prop
 | nil (p:Nat):Lx U p [] p
 | cons {p m q:Nat} {t:Tok} {l:List Tkn}:nextO U p=some (t,m)->t.kd ≠ 0->Lx U m l q->Lx U p (t.k :: l) q
section
variable {U:ByteArray}
theorem Lx.app {p q r:Nat} {a b:List Tkn} (h:Lx U p a q) (g:Lx U q b r):Lx U p (a ++ b) r:=by
 induction h with
 | nil=>exact g
 | cons h1 h2 _ ih=>exact .cons h1 h2 (ih g)
theorem Lx.one {p m:Nat} {t:Tok} {u:Tkn} (h:nextO U p=some (t,m)) (h0:t.kd ≠ 0) (e:t.k=u):Lx U p [u] m:=e ▸ .cons h h0 (.nil m)
theorem Lx.len {p q:Nat} {l:List Tkn} (h:Lx U p l q) (hp:p<=U.size):p + l.length<=q/\q<=U.size:=by
 induction h with
 | nil=>exact ⟨by simp,hp⟩
 | cons h1 h2 _ ih =>
  have h3:=lV h1;have h4:=h3.2.1 h2;have:=ih h3.1;simp only [List.length_cons];omega
theorem Lx.all {p q:Nat} {l:List Tkn} (h:Lx U p l q) (hq:U.size<=skO U q):∀ f,l.length < f->∃ L,allF U f p=.ok L/\L.map Tok.k=l ++ [(0,⟨#[]⟩,set0)]:=by
 induction h with
 | nil p =>
  intro f hf;obtain ⟨g,rfl⟩:∃ g,f=g + 1:=⟨f - 1,by omega⟩;refine ⟨[⟨0,⟨#[]⟩,set0,U.size⟩],?_,rfl⟩;unfold allF nextO;rw [if_pos hq];rfl
 | cons h1 h2 _ ih =>
  intro f hf;obtain ⟨g,rfl⟩:∃ g,f=g + 1:=⟨f - 1,by omega⟩;obtain ⟨L,h3,h4⟩:=ih hq g (by simp at hf;omega);refine ⟨_ :: L,?_,by rw [List.map_cons,h4];rfl⟩;unfold allF;rw [h1];simp only;rw [if_neg h2,h3]
theorem Nc {k:Nat} (hk:k < U.size) (h:yQ (byt U k)=false) (h2:byt U k ≠ 35):nextO U k=tkO U k:=by have h3:skO U k=k:=Gb h h2;unfold nextO;rw [h3,if_neg (by omega)]
theorem A3g {k:Nat} (hk:k < U.size) (h:yQ (byt U k)=true):nextO U k=nextO U (k + 1):=by unfold nextO;rw [kN hk h]
theorem Lx.blank {p q:Nat} {t:Tkn} {l:List Tkn} (hk:p < U.size) (hb:yQ (byt U p)=true) (h:Lx U (p + 1) (t :: l) q):Lx U p (t :: l) q:=by
 cases h with
 | cons h1 h2 h3=>exact .cons (by rw [A3g hk hb];exact h1) h2 h3
theorem At.cut {k:Nat} {l:List UInt8} (h:At U k l):U.extract k (k + l.length)=ofL l:=by obtain ⟨pre,post,h,hk⟩:=h;apply kT;rw [ByteArray.data_extract];simp only [Array.toList_extract,List.extract_eq_take_drop];rw [h,show k + l.length - k=l.length by omega,<- hk,List.drop_left,List.take_left];show l=l.toArray.toList;simp
theorem At.get {k:Nat}:∀ {l:List UInt8} {j:Nat} {c:UInt8},At U k l->l[j]?=some c->k + j < U.size/\byt U (k + j)=(c.toNat:Int)
 | [],j,c,h,e=>by simp at e
 | a :: l,0,c,h,e=>by simp at e;subst e;exact ⟨h.cons.1,h.cons.2.1⟩
 | a :: l,j + 1,c,h,e=>by have:=At.get (k:=k + 1) h.cons.2.2 (show l[j]?=some c by simpa using e);rw [show k + (j + 1)=k + 1 + j by omega];exact this
def C0T (c:UInt8):Bool:=!Cs (c.toNat:Int) && !((c.toNat:Int) == 34) && !((c.toNat:Int) == 91) && !((c.toNat:Int) == 58) && sgB (c.toNat:Int) && !yQ (c.toNat:Int) && !((c.toNat:Int) == 35)
theorem Lx.sign {p:Nat} {c:UInt8} {l:List UInt8} (h:At U p (c :: l)) (hc:C0T c=true):Lx U p [sgT [c]] (p + 1):=by
 obtain ⟨h1,h2,h3⟩:=h.cons;have hcut:=At.cut (l:=[c]) (At.app (l:=[c]) (r:=l) h).1;simp only [C0T,Bool.and_eq_true,Bool.not_eq_true',aN] at hc;obtain ⟨⟨⟨⟨⟨⟨c1,c2⟩,c3⟩,c4⟩,c5⟩,c6⟩,c7⟩:=hc;have hg:sgO U p=1:=by unfold sgO;rw [h2,if_neg c4,if_pos c5]
 refine Lx.one (t:=⟨4,U.extract p (p + 1),set0,p⟩) (m:=p + 1) ?_ (Nat.succ_ne_zero _) (by rw [show U.extract p (p + 1)=ofL [c] from hcut];rfl);rw [Nc h1 (by rw [h2];exact c6) (by rw [h2];exact c7)];unfold tkO;rw [h2,c1,if_neg (by decide),if_neg c2,if_neg c3,hg,if_neg (by decide)]
theorem Lx.colon {p:Nat} {c:UInt8} {l:List UInt8} (h:At U p (58 :: c :: l)) (hc:c ≠ 58):Lx U p [sgT [58]] (p + 1):=by
 obtain ⟨h1,h2,h3⟩:=h.cons;obtain ⟨h4,h5,-⟩:=h3.cons;have hcut:=At.cut (l:=[58]) (At.app (l:=[58]) (r:=c :: l) h).1;have h2':byt U p=58:=h2;have hne:(c.toNat:Int) ≠ 58:=fun e=>hc (by apply UInt8.toNat_inj.1;show c.toNat=58;omega);have hg:sgO U p=1:=by unfold sgO bG;rw [h2',if_pos rfl,if_neg];rw [Int.toNat_natCast,h5];simp [hne]
 refine Lx.one (t:=⟨4,U.extract p (p + 1),set0,p⟩) (m:=p + 1) ?_ (Nat.succ_ne_zero _) (by rw [show U.extract p (p + 1)=ofL [58] from hcut];rfl);rw [Nc h1 (by rw [h2'];rfl) (by rw [h2'];decide)];unfold tkO;rw [h2',if_neg (by decide),if_neg (by decide),if_neg (by decide),hg,if_neg (by decide)]
theorem Lx.colons {p:Nat} {l:List UInt8} (h:At U p (58 :: 58 :: l)):Lx U p [sgT [58,58]] (p + 2):=by
 obtain ⟨h1,h2,h3⟩:=h.cons;obtain ⟨h4,h5,-⟩:=h3.cons;have hcut:=At.cut (l:=[58,58]) (At.app (l:=[58,58]) (r:=l) h).1;have h2':byt U p=58:=h2;have h5':byt U (p + 1)=58:=h5;have hg:sgO U p=2:=by unfold sgO bG;rw [h2',if_pos rfl,if_pos];rw [Int.toNat_natCast,h5'];simp;omega
 refine Lx.one (t:=⟨4,U.extract p (p + 2),set0,p⟩) (m:=p + 2) ?_ (Nat.succ_ne_zero _) (by rw [show U.extract p (p + 2)=ofL [58,58] from hcut];rfl);rw [Nc h1 (by rw [h2'];rfl) (by rw [h2'];decide)];unfold tkO;rw [h2',if_neg (by decide),if_neg (by decide),if_neg (by decide),hg,if_neg (by decide)]
def Stop (U:ByteArray) (q:Nat):Prop:=¬ (q < U.size/\vY (byt U q)=true)
theorem Stop.at {q:Nat} {c:UInt8} {l:List UInt8} (h:At U q (c :: l)) (hc:vY (c.toNat:Int)=false):Stop U q:=fun g=>by rw [h.cons.2.1,hc] at g;exact absurd g.2 (by decide)
theorem QI {c:Int} (h:Cs c=true):yQ c=false/\c ≠ 35/\c ≠ 58/\c ≠ 34/\c ≠ 91:=by unfold Cs at h;simp at h;refine ⟨?_,by omega,by omega,by omega,by omega⟩;unfold yQ;have e1:(c == 32)=false:=aN.2 (by omega);have e2:(c == 9)=false:=aN.2 (by omega);have e3:(c == 10)=false:=aN.2 (by omega);rw [e1,e2,e3];rfl
theorem Lx.name {p:Nat} {c:UInt8} {l:List UInt8} (h:At U p (c :: l)) (hc:Cs (c.toNat:Int)=true) (hl:∀ x ∈ c :: l,vY (x.toNat:Int)=true) (hn:(c :: l).length<=12) (hs:Stop U (p + (c :: l).length)) :
  Lx U p [nmT (ofL (c :: l))] (p + (c :: l).length):=by
 obtain ⟨h1,h2,h3⟩:=h.cons;have hnm:nmO U p=(c :: l).length:=by refine Vw _ _ _ (by have:=h.le;omega) (fun j hj=>?_) (fun _=>hs);obtain ⟨h4,h5⟩:=h.get (aG hj);exact ⟨h4,by rw [h5];exact hl _ (List.getElem_mem hj)⟩
 obtain ⟨e1,e2,-⟩:=QI hc;refine Lx.one (t:=⟨1,U.extract p (p + (c :: l).length),set0,p⟩) ?_ (Nat.succ_ne_zero _) (by rw [h.cut];rfl);rw [Nc h1 (by rw [h2];exact e1) (by rw [h2];exact e2)];unfold tkO;rw [h2,hc,if_pos rfl,hnm,if_pos hn]
theorem fJ (s:ByteArray):s.data.toList.length=s.size:=by simp
theorem Lx.text {p:Nat} {s:ByteArray} (h:At U p (gU s).data.toList) (h1:1<=s.size) (h2:s.size<=40):Lx U p [(2,s,set0)] (p + (gU s).data.toList.length):=by obtain ⟨r,hr⟩:=A2b s;have h0:=h;rw [hr] at h0;obtain ⟨g1,g2,-⟩:=h0.cons;have g2':byt U p=34:=g2;have hb:=MV h;rw [if_neg (by omega)] at hb;refine Lx.one (t:=⟨2,s,set0,p⟩) ?_ (Nat.succ_ne_zero _) rfl;rw [Nc g1 (by rw [g2'];rfl) (by rw [g2'];decide)];unfold tkO;rw [g2',if_neg (by decide),if_pos rfl,hb,fJ];rfl
theorem Lx.set {p:Nat} {x:bO} (h:At U p (dF (inS x)).data.toList) (hx:fits x) (h0:x ≠ set0):Lx U p [(3,⟨#[]⟩,x)] (p + (dF (inS x)).data.toList.length):=by obtain ⟨r,hr⟩:=YW (inS x);have h1:=h;rw [hr] at h1;obtain ⟨g1,g2,-⟩:=h1.cons;have g2':byt U p=91:=g2;have hb:=Sy hx h;rw [if_neg h0] at hb;refine Lx.one (t:=⟨3,⟨#[]⟩,x,p⟩) ?_ (Nat.succ_ne_zero _) rfl;rw [Nc g1 (by rw [g2'];rfl) (by rw [g2'];decide)];unfold tkO;rw [g2',if_neg (by decide),if_neg (by decide),if_pos rfl,hb,fJ];rfl
end
theorem GR:∀ {s sub:List UInt8} {i:Nat},Lib.index s sub=(i:Int)->sub.isPrefixOf (s.drop i)=true
 | [],sub,i,h=>by
  unfold Lib.index at h;split at h
  ·
   rename_i g;obtain rfl:i=0:=by omega
   cases sub with
   | nil=>rfl
   | cons a l=>cases g
  · omega
 | b :: l,sub,i,h=>by
  unfold Lib.index at h;split at h
  · rename_i g;obtain rfl:i=0:=(by omega);exact g
  ·
   split at h
   · omega
   · have hge:=Lib.index_ge l sub;obtain ⟨j,rfl⟩:∃ j,i=j + 1:=⟨i - 1,by rename_i g1 g2;have:Lib.index l sub ≠ -1:=fun e=>g2 (by rw [e];rfl);omega⟩;exact GR (s:=l) (by omega)
theorem FJ {t:ByteArray} (h:(iH t).2.2=true):t.data.toList=(iH t).1 ++ 58 :: 58 :: (iH t).2.1:=by
 unfold iH Lib.cut at h ⊢;by_cases g:0<=Lib.index t.data.toList [58,58]
 ·
  rw [if_pos g];obtain ⟨i,hi⟩:∃ i:Nat,Lib.index t.data.toList [58,58]=(i:Int):=⟨_,(Int.toNat_of_nonneg g).symm⟩;rw [hi,Int.toNat_natCast];obtain ⟨r,hr⟩:=List.isPrefixOf_iff_prefix.1 (GR hi);have h2:t.data.toList.drop (i + 2)=r:=by rw [<- List.drop_drop,<- hr];rfl
  show t.data.toList=t.data.toList.take i ++ 58 :: 58 :: t.data.toList.drop (i + 2);rw [h2,show 58 :: 58 :: r=t.data.toList.drop i from hr,List.take_append_drop]
 · rw [if_neg g] at h;cases h
theorem Te {t:ByteArray} (h:t.toList.isEmpty=true):t=⟨#[]⟩:=by rw [gY] at h;have:=of_decide_eq_true h;apply kT;rw [List.eq_nil_of_length_eq_zero (show t.data.toList.length=0 by rw [fJ,this])]
theorem C0d {a b c d:Int} (h:zB a b c d=true):a=0/\b=0/\c=0/\d=0:=by unfold zB at h;simp only [Bool.and_eq_true,beq_iff_eq] at h;exact ⟨h.1.1.1,h.1.1.2,h.1.2,h.2⟩
theorem uN {x:Ex} (h:uB x=true) :
  (∃ t,x=.mk 1 t 0 0 0 0 []/\1<=t.size/\t.size<=40)\/(∃ a b c d,x=.mk 2 ⟨#[]⟩ a b c d []/\zB a b c d=false)\/x=.mk 3 ⟨#[]⟩ 0 0 0 0 [] ∨
  (∃ t,x=.mk 11 t 0 0 0 0 []/\splitB t=true)\/(∃ o y z K,(o=4\/o=5)/\x=.mk o ⟨#[]⟩ 0 0 0 0 (y :: z :: K)) ∨
  (∃ o y,(o=6\/o=7\/o=8\/o=9\/o=10\/o=13)/\x=.mk o ⟨#[]⟩ 0 0 0 0 [y])\/∃ t y,x=.mk 12 t 0 0 0 0 [y]/\bN t=true:=by
 obtain ⟨o,t,a,b,c,d,K⟩:=x;unfold uB ownB at h;simp only [Ex.op,Ex.text,Ex.s0,Ex.s1,Ex.s2,Ex.s3,Ex.kids,Bool.and_eq_true,Bool.not_eq_true',aN] at h;obtain ⟨⟨h1,h2⟩,h3⟩:=h;have one:(K.length == 1)=true->∃ y,K=[y]:=fun g=>by
  match K,g with
  | [y],_=>exact ⟨y,rfl⟩
 have nil:(K.length == 0)=true->K=[]:=fun g=>List.eq_nil_of_length_eq_zero (by simpa using g)
 have zz:o ≠ 2->a=0/\b=0/\c=0/\d=0:=fun g=>C0d (by
  cases hz:zB a b c d
  · rw [hz] at h3;exact absurd (aN.2 g) h3
  · rfl)
 by_cases e2:o=2
 ·
  subst e2;have hz:zB a b c d=false:=by
   cases hz:zB a b c d
   · rfl
   · rw [hz] at h3;exact absurd rfl h3
  exact .inr (.inl ⟨a,b,c,d,by rw [Te h1,nil h2],hz⟩)
 obtain ⟨rfl,rfl,rfl,rfl⟩:=zz e2;clear zz h3;by_cases e1:o=1
 ·
  subst e1;have h1':(!t.toList.isEmpty && decide ((t.size:Int)<=40))=true:=h1;rw [gY] at h1';simp at h1';refine .inl ⟨t,by rw [nil h2],?_,by omega⟩;have:=h1'.1;by_cases g:t.size=0
  · exact absurd (show t=ByteArray.empty from by apply kT;rw [List.eq_nil_of_length_eq_zero (show t.data.toList.length=0 by rw [fJ,g])];rfl) (by simpa using this)
  · omega
 by_cases e3:o=3
 · subst e3;exact .inr (.inr (.inl (by rw [Te h1,nil h2])))
 by_cases e11:o=11
 · subst e11;exact .inr (.inr (.inr (.inl ⟨t,by rw [nil h2],h1⟩)))
 by_cases e12:o=12
 · subst e12;obtain ⟨y,rfl⟩:=one h2;exact .inr (.inr (.inr (.inr (.inr (.inr ⟨t,y,rfl,h1⟩)))))
 unfold dZ at h1;rw [if_neg e1,if_neg e11,if_neg e12] at h1;unfold dJ at h2;rw [if_neg (by omega)] at h2;by_cases e45:o=4\/o=5
 ·
  rw [if_pos e45] at h2;have h2':=of_decide_eq_true h2
  match K,h2' with
  | y :: z :: K,_=>exact .inr (.inr (.inr (.inr (.inl ⟨o,y,z,K,e45,by rw [Te h1]⟩))))
 ·
  rw [if_neg e45] at h2;split at h2
  · rename_i g;obtain ⟨y,rfl⟩:=one h2;exact .inr (.inr (.inr (.inr (.inr (.inl ⟨o,y,by omega,by rw [Te h1]⟩)))))
  · cases h2
def B3K (x:Ex):bO:=(x.s0.toNat,x.s1.toNat,x.s2.toNat,x.s3.toNat)
def A1f (t:ByteArray):List Tkn:=if (iH t).2.2=true then [nmT (ofL (iH t).1),sgT [58,58],nmT (ofL (iH t).2.1)] else [nmT t]
def A3x (b:Bool) (l:List Tkn):List Tkn:=if b=true then sgT [40] :: (l ++ [sgT [41]]) else l
def kdT (f:Ex->List Tkn) (op:Int) (y:Ex):List Tkn:=A3x (decide (fQ y.op<=fQ op)) (f y)
def iF (sep:List Tkn) (r:List (List Tkn)):List Tkn:=(r.map (sep ++ ·)).flatten
def B0g (sep:List Tkn):List (List Tkn)->List Tkn
 | []=>[]
 | a :: r=>a ++ iF sep r
def XD (op:Int):List Tkn:=if op=5 then [sgT [47]] else []
def rwT (f:Ex->List Tkn) (x:Ex):List Tkn:=B0g (XD x.op) (x.kids.map (kdT f x.op))
def tsX:Nat->Ex->List Tkn
 | 0,_=>[]
 | n + 1,x =>
  if x.op=1 then [(2,x.text,set0)] else if x.op=2 then [(3,⟨#[]⟩,B3K x)] else if x.op=3 then [sgT [46]] else if x.op=11 then A1f x.text
  else if x.op=4 then rwT (tsX n) x else if x.op=5 then rwT (tsX n) x
  else if x.op=6 then rwT (tsX n) x ++ [sgT [42]] else if x.op=7 then rwT (tsX n) x ++ [sgT [43]] else if x.op=8 then rwT (tsX n) x ++ [sgT [63]]
  else if x.op=9 then sgT [38] :: rwT (tsX n) x else if x.op=10 then sgT [33] :: rwT (tsX n) x
  else if x.op=12 then nmT x.text :: sgT [58] :: rwT (tsX n) x else if x.op=13 then sgT [126] :: (rwT (tsX n) x ++ [sgT [126]]) else []
def beW (o:Int) (t:ByteArray):List UInt8:=if o=9 then [38] else if o=10 then [33] else if o=12 then t.data.toList ++ [58] else if o=13 then [126] else []
def afW (o:Int):List UInt8:=if o=6 then [42] else if o=7 then [43] else if o=8 then [63] else if o=13 then [126] else []
def beT (o:Int) (t:ByteArray):List Tkn:=if o=9 then [sgT [38]] else if o=10 then [sgT [33]] else if o=12 then [nmT t,sgT [58]] else if o=13 then [sgT [126]] else []
def afT (o:Int):List Tkn:=if o=6 then [sgT [42]] else if o=7 then [sgT [43]] else if o=8 then [sgT [63]] else if o=13 then [sgT [126]] else []
theorem zP (n:Nat) (o:Int) (t:ByteArray) (y:Ex) (ho:o=6\/o=7\/o=8\/o=9\/o=10\/o=12\/o=13):prX (n + 1) (.mk o t 0 0 0 0 [y])=beW o t ++ (kdX (prX n) o y ++ afW o):=by rcases ho with rfl | rfl | rfl | rfl | rfl | rfl | rfl <;> simp [prX,pW,Ex.op,Ex.kids,Ex.text,Lib.join_one,beW,afW]
theorem Dn (n:Nat) (o:Int) (t:ByteArray) (y:Ex) (ho:o=6\/o=7\/o=8\/o=9\/o=10\/o=12\/o=13):tsX (n + 1) (.mk o t 0 0 0 0 [y])=beT o t ++ (kdT (tsX n) o y ++ afT o):=by rcases ho with rfl | rfl | rfl | rfl | rfl | rfl | rfl <;> simp [tsX,rwT,Ex.op,Ex.kids,Ex.text,B0g,iF,beT,afT]
theorem DD (n:Nat) (o:Int) (y:Ex) (K:List Ex) (ho:o=4\/o=5):prX (n + 1) (.mk o ⟨#[]⟩ 0 0 0 0 (y :: K))=kdX (prX n) o y ++ Lib.joinTail (mP o) (K.map (kdX (prX n) o)):=by rcases ho with rfl | rfl <;> simp [prX,pW,Ex.op,Ex.kids,Lib.join_cons]
theorem DU (n:Nat) (o:Int) (y:Ex) (K:List Ex) (ho:o=4\/o=5):tsX (n + 1) (.mk o ⟨#[]⟩ 0 0 0 0 (y :: K))=kdT (tsX n) o y ++ iF (XD o) (K.map (kdT (tsX n) o)):=by rcases ho with rfl | rfl <;> simp [tsX,rwT,Ex.op,Ex.kids,B0g]
def B4q (c:UInt8):Prop:=yQ (c.toNat:Int)=false/\(c.toNat:Int) ≠ 35/\c ≠ 58
theorem nA {t:ByteArray} (h:bN t=true):t.size<=12/\∃ c l,t.data.toList=c :: l/\Cs (c.toNat:Int)=true/\∀ x ∈ c :: l,vY (x.toNat:Int)=true:=by
 unfold bN at h;simp only [Bool.and_eq_true,Bool.not_eq_true'] at h;obtain ⟨⟨h1,h2⟩,h3⟩:=h;have h3':=of_decide_eq_true h3;have hall:∀ n,uH t n=true->∀ j,j < n->vZ j (byt t j)=true:=fun n=>by
  induction n with
  | zero=>intro _ j hj;omega
  | succ n ih =>
   intro g j hj;unfold uH at g;rw [Bool.and_eq_true] at g;by_cases e:j=n
   · subst e;exact g.2
   · exact ih g.1 j (by omega)
 have hA:=hall t.size h2;have hne:t.size ≠ 0:=fun e=>by unfold WX at h1;rw [show t.toList.isEmpty=true by rw [gY,e];rfl] at h1;simp at h1
 have hlen:=fJ t;refine ⟨by omega,?_⟩
 cases hl:t.data.toList with
 | nil=>rw [hl] at hlen;simp at hlen;omega
 | cons c l =>
  have hb:∀ j x,(c :: l)[j]?=some x->byt t j=(x.toNat:Int):=fun j x e=>by unfold byt;rw [hl,List.getD_eq_getElem?_getD,e];rfl
  have hlt:∀ z:Int,isLet z=Cs z:=fun z=>rfl;refine ⟨c,l,rfl,?_,fun x hx=>?_⟩
  · have:=hA 0 (by omega);rw [hb 0 c rfl] at this;unfold vZ at this;simpa [hlt] using this
  ·
   obtain ⟨j,hj,e⟩:=List.getElem_of_mem hx;have:=hA j (by rw [hl] at hlen;omega);rw [hb j x (by rw [aG hj,e])] at this;unfold vZ Io at this;unfold vY;rw [<- hlt]
   revert this
   cases isLet (x.toNat:Int) <;> cases (decide (48<=(x.toNat:Int)) && decide ((x.toNat:Int)<=57)) <;> cases ((x.toNat:Int) == 95) <;> simp
theorem A3I {c:UInt8} (h:Cs (c.toNat:Int)=true):B4q c:=by obtain ⟨h1,h2,h3,-⟩:=QI h;exact ⟨h1,h2,fun e=>h3 (by rw [e];rfl)⟩
theorem A5y:∀ (n:Nat) (x:Ex),gQ n x=true->∃ c l,prX n x=c :: l/\B4q c
 | 0,x,h=>by cases h
 | n + 1,x,h=>by
  rw [jN,Bool.and_eq_true,List.all_eq_true] at h;obtain ⟨h1,h2⟩:=h;have hk:∀ y ∈ x.kids,∀ o,∃ c l,kdX (prX n) o y=c :: l/\B4q c:=fun y hy o=>by
   obtain ⟨c,l,e,hc⟩:=A5y n y (h2 y hy);unfold kdX Ph;split
   · exact ⟨40,_,rfl,by decide,by decide,by decide⟩
   · exact ⟨c,l,e,hc⟩
  rcases uN h1 with ⟨t,rfl,-,-⟩ | ⟨a,b,c,d,rfl,-⟩ | rfl | ⟨t,rfl,ht⟩ | ⟨o,y,z,K,ho,rfl⟩ | ⟨o,y,ho,rfl⟩ | ⟨t,y,rfl,ht⟩
  · obtain ⟨r,hr⟩:=A2b t;exact ⟨34,r,by simp [prX,Ex.op,Ex.text,hr],by decide,by decide,by decide⟩
  · obtain ⟨r,hr⟩:=YW (inX (.mk 2 ⟨#[]⟩ a b c d []));exact ⟨91,r,by simp [prX,Ex.op,hr],by decide,by decide,by decide⟩
  · exact ⟨46,[],by simp [prX,Ex.op],by decide,by decide,by decide⟩
  ·
   have e:prX (n + 1) (.mk 11 t 0 0 0 0 [])=t.data.toList:=(by simp [prX,Ex.op,Ex.text]);rw [e];unfold splitB at ht;split at ht
   · rename_i g;rw [Bool.and_eq_true] at ht;obtain ⟨-,c,l,e1,hc,-⟩:=nA ht.1;have e2:(iH t).1=c :: l:=(by rw [<- e1];show _=((iH t).1.toArray).toList;simp);exact ⟨c,l ++ 58 :: 58 :: (iH t).2.1,by rw [FJ g,e2];rfl,A3I hc⟩
   · obtain ⟨-,c,l,e1,hc,-⟩:=nA ht;exact ⟨c,l,e1,A3I hc⟩
  · obtain ⟨c,l,e,hc⟩:=hk y (by simp [Ex.kids]) o;exact ⟨c,_,by rw [DD n o y (z :: K) ho,e];rfl,hc⟩
  ·
   obtain ⟨c,l,e,hc⟩:=hk y (by simp [Ex.kids]) o;rw [zP n o _ y (by omega),e];rcases ho with rfl | rfl | rfl | rfl | rfl | rfl
   · exact ⟨c,_,rfl,hc⟩
   · exact ⟨c,_,rfl,hc⟩
   · exact ⟨c,_,rfl,hc⟩
   · exact ⟨38,_,rfl,by decide,by decide,by decide⟩
   · exact ⟨33,_,rfl,by decide,by decide,by decide⟩
   · exact ⟨126,_,rfl,by decide,by decide,by decide⟩
  · obtain ⟨-,c,l,e1,hc,-⟩:=nA ht;rw [zP n 12 t y (by omega)];exact ⟨c,_,by show (t.data.toList ++ [58]) ++ _=_;rw [e1];rfl,A3I hc⟩
theorem gM (l:List UInt8):(ofL l).data.toList=l:=by show l.toArray.toList=l;simp
theorem B4i {x:Ex} (h0:0<=x.s0/\x.s0 < P64) (h1:0<=x.s1/\x.s1 < P64) (h2:0<=x.s2/\x.s2 < P64) (h3:0<=x.s3/\x.s3 < P64):fits (B3K x):=⟨by show x.s0.toNat < _;omega,by show x.s1.toNat < _;omega,by show x.s2.toNat < _;omega,by show x.s3.toNat < _;omega⟩
section
variable {U:ByteArray}
theorem At.none {l:List UInt8} {p:Nat} (h:At U p ([] ++ l)):At U p l:=h
theorem Lx.word {p:Nat} {t:ByteArray} (ht:bN t=true) (h:At U p t.data.toList) (hs:Stop U (p + t.data.toList.length)):Lx U p [nmT t] (p + t.data.toList.length):=by obtain ⟨h12,c,l,e,hc,hl⟩:=nA ht;have hz:=fJ t;rw [e] at h hs hz ⊢;have:=Lx.name h hc hl (by omega) hs;rw [show ofL (c :: l)=t by rw [<- e];apply kT;rw [gM]] at this;exact this
theorem B8D {n:Nat} {o:Int} {y:Ex} (IH:∀ p,At U p (prX n y)->Stop U (p + (prX n y).length)->Lx U p (tsX n y) (p + (prX n y).length)) {p:Nat} (h:At U p (kdX (prX n) o y)) (hs:Stop U (p + (kdX (prX n) o y).length)) :
  Lx U p (kdT (tsX n) o y) (p + (kdX (prX n) o y).length):=by
 unfold kdX Ph at h hs ⊢;unfold kdT A3x
 cases hb:decide (fQ y.op<=fQ o)
 · rw [hb,if_neg (by decide)] at h hs;rw [if_neg (by decide),if_neg (by decide)];exact IH p h hs
 · rw [hb,if_pos rfl] at h hs;rw [if_pos rfl,if_pos rfl];obtain ⟨-,-,h1⟩:=h.cons;obtain ⟨h2,h3⟩:=h1.app;have g1:=Lx.sign h (by decide);have g2:=IH (p + 1) h2 (Stop.at h3 (by decide));have g3:=Lx.sign h3 (by decide);have:=(g1.app g2).app g3;rw [show p + (40 :: (prX n y ++ [41])).length=p + 1 + (prX n y).length + 1 by simp;omega];simpa using this
theorem B4y {n:Nat} {o:Int} {y:Ex} (h:gQ n y=true):∃ c l,kdX (prX n) o y=c :: l/\B4q c:=by
 obtain ⟨c,l,e,hc⟩:=A5y n y h;unfold kdX Ph;split
 · exact ⟨40,_,rfl,by decide,by decide,by decide⟩
 · exact ⟨c,l,e,hc⟩
theorem Lx.blanks {p q:Nat} {L:List Tkn} (hk:p < U.size) (hb:yQ (byt U p)=true) (hL:L ≠ []) (h:Lx U (p + 1) L q):Lx U p L q:=by
 cases L with
 | nil=>exact absurd rfl hL
 | cons t l=>exact h.blank hk hb
theorem A5i {n:Nat} {o:Int} (ho:o=4\/o=5):∀ (K:List Ex),(∀ y ∈ K,kdT (tsX n) o y ≠ []/\∀ p,At U p (kdX (prX n) o y)->Stop U (p + (kdX (prX n) o y).length)->Lx U p (kdT (tsX n) o y) (p + (kdX (prX n) o y).length)) →
  ∀ p,At U p (Lib.joinTail (mP o) (K.map (kdX (prX n) o)))->Stop U (p + (Lib.joinTail (mP o) (K.map (kdX (prX n) o))).length) →
  Lx U p (iF (XD o) (K.map (kdT (tsX n) o))) (p + (Lib.joinTail (mP o) (K.map (kdX (prX n) o))).length)/\Stop U p
 | [],IH,p,h,hs=>⟨.nil p,hs⟩
 | y :: K,IH,p,h,hs=>by
  have e1:Lib.joinTail (mP o) ((y :: K).map (kdX (prX n) o))=mP o ++ (kdX (prX n) o y ++ Lib.joinTail (mP o) (K.map (kdX (prX n) o))):=by simp [Lib.joinTail]
  have e2:iF (XD o) ((y :: K).map (kdT (tsX n) o))=XD o ++ (kdT (tsX n) o y ++ iF (XD o) (K.map (kdT (tsX n) o))):=by simp [iF]
  rw [e1] at h hs ⊢;rw [e2];clear e1 e2;obtain ⟨hne,hy⟩:=IH y (List.mem_cons_self ..);obtain ⟨h1,h2⟩:=h.app;obtain ⟨h3,h4⟩:=h2.app;have hs':Stop U (p + (mP o).length + (kdX (prX n) o y).length + (Lib.joinTail (mP o) (K.map (kdX (prX n) o))).length):=by rw [List.length_append,List.length_append] at hs;rw [show p + (mP o).length + (kdX (prX n) o y).length + (Lib.joinTail (mP o) (K.map (kdX (prX n) o))).length=p + ((mP o).length + ((kdX (prX n) o y).length + (Lib.joinTail (mP o) (K.map (kdX (prX n) o))).length)) by omega];exact hs
  obtain ⟨g1,g2⟩:=A5i ho K (fun z hz=>IH z (List.mem_cons_of_mem _ hz)) _ h4 hs';have g3:=(hy _ h3 g2).app g1;have hne2:kdT (tsX n) o y ++ iF (XD o) (K.map (kdT (tsX n) o)) ≠ []:=fun e=>hne (List.append_eq_nil_iff.1 e).1;rw [show p + (mP o ++ (kdX (prX n) o y ++ Lib.joinTail (mP o) (K.map (kdX (prX n) o)))).length=p + (mP o).length + (kdX (prX n) o y).length + (Lib.joinTail (mP o) (K.map (kdX (prX n) o))).length by rw [List.length_append,List.length_append];omega];rcases ho with rfl | rfl
  · obtain ⟨b1,b2,-⟩:=(show At U p (32 :: []) from h1).cons;have b2':byt U p=32:=b2;refine ⟨Lx.blanks b1 (by rw [b2'];rfl) hne2 g3,fun g=>?_⟩;rw [b2'] at g;exact absurd g.2 (by decide)
  ·
   obtain ⟨b1,b2,h5⟩:=(show At U p (32 :: 47 :: 32 :: []) from h1).cons;obtain ⟨-,-,h6⟩:=h5.cons;obtain ⟨b3,b4,-⟩:=h6.cons;have b2':byt U p=32:=b2;have b4':byt U (p + 1 + 1)=32:=b4;refine ⟨?_,fun g=>?_⟩
   · have g4:Lx U (p + 1 + 1) (kdT (tsX n) 5 y ++ iF (XD 5) (K.map (kdT (tsX n) 5))) _:=Lx.blanks b3 (by rw [b4'];rfl) hne2 g3;exact Lx.blanks b1 (by rw [b2'];rfl) (by simp [XD]) ((Lx.sign h5 (by decide)).app g4)
   · rw [b2'] at g;exact absurd g.2 (by decide)
theorem B7Q:∀ (n:Nat) (x:Ex),gQ n x=true->tsX n x ≠ []
 | 0,x,h=>by cases h
 | n + 1,x,h=>by
  rw [jN,Bool.and_eq_true,List.all_eq_true] at h;obtain ⟨h1,h2⟩:=h;have hk:∀ y ∈ x.kids,∀ o,kdT (tsX n) o y ≠ []:=fun y hy o=>by
   unfold kdT A3x;split
   · simp
   · exact B7Q n y (h2 y hy)
  rcases uN h1 with ⟨t,rfl,-,-⟩ | ⟨a,b,c,d,rfl,-⟩ | rfl | ⟨t,rfl,ht⟩ | ⟨o,y,z,K,ho,rfl⟩ | ⟨o,y,ho,rfl⟩ | ⟨t,y,rfl,ht⟩
  · simp [tsX,Ex.op]
  · simp [tsX,Ex.op]
  · simp [tsX,Ex.op]
  · by_cases g:(iH t).2.2=true <;> simp [tsX,Ex.op,Ex.text,A1f,g]
  · rw [DU n o y (z :: K) ho];exact fun e=>hk y (by simp [Ex.kids]) o (List.append_eq_nil_iff.1 e).1
  · rw [Dn n o _ y (by omega)];exact fun e=>hk y (by simp [Ex.kids]) o (List.append_eq_nil_iff.1 (List.append_eq_nil_iff.1 e).2).1
  · rw [Dn n 12 t y (by omega)];simp [beT]
theorem B1B:∀ (n:Nat) (x:Ex),gQ n x=true->bW n x->∀ p,At U p (prX n x)->Stop U (p + (prX n x).length)->Lx U p (tsX n x) (p + (prX n x).length)
 | 0,x,h,_,p,hA,hs=>by cases h
 | n + 1,x,h,hS,p,hA,hs=>by
  rw [jN,Bool.and_eq_true,List.all_eq_true] at h;obtain ⟨h1,h2⟩:=h;have hk:∀ y ∈ x.kids,∀ o,kdT (tsX n) o y ≠ []/\∀ p,At U p (kdX (prX n) o y)->Stop U (p + (kdX (prX n) o y).length)->Lx U p (kdT (tsX n) o y) (p + (kdX (prX n) o y).length):=fun y hy o=>by
   obtain ⟨k,hk,e⟩:=List.getElem_of_mem hy;refine ⟨?_,fun p=>B8D (B1B n y (h2 y hy) (hS.2 k y (by rw [aG hk,e])))⟩;unfold kdT A3x;split
   · simp
   · exact B7Q n y (h2 y hy)
  rcases uN h1 with ⟨t,rfl,t1,t2⟩ | ⟨a,b,c,d,rfl,hz⟩ | rfl | ⟨t,rfl,ht⟩ | ⟨o,y,z,K,ho,rfl⟩ | ⟨o,y,ho,rfl⟩ | ⟨t,y,rfl,ht⟩
  · have e:prX (n + 1) (.mk 1 t 0 0 0 0 [])=(gU t).data.toList:=(by simp [prX,Ex.op,Ex.text]);have e2:tsX (n + 1) (.mk 1 t 0 0 0 0 [])=[(2,t,set0)]:=(by simp [tsX,Ex.op,Ex.text]);rw [e] at hA ⊢;rw [e2];exact Lx.text hA t1 t2
  ·
   have e:prX (n + 1) (.mk 2 ⟨#[]⟩ a b c d [])=(dF (inS (B3K (.mk 2 ⟨#[]⟩ a b c d [])))).data.toList:=(by simp [prX,Ex.op];rfl);have e2:tsX (n + 1) (.mk 2 ⟨#[]⟩ a b c d [])=[(3,⟨#[]⟩,B3K (.mk 2 ⟨#[]⟩ a b c d []))]:=(by simp [tsX,Ex.op]);rw [e] at hA ⊢;rw [e2];obtain ⟨⟨f0,f1,f2,f3⟩,-⟩:=hS;refine Lx.set hA (B4i f0 f1 f2 f3) fun g=>?_;have g':(a.toNat,b.toNat,c.toNat,d.toNat)=((0,0,0,0):bO):=g;simp only [Prod.mk.injEq] at g';have f0':0<=a:=f0.1;have f1':0<=b:=f1.1;have f2':0<=c:=f2.1;have f3':0<=d:=f3.1;obtain rfl:a=0:=(by omega);obtain rfl:b=0:=(by omega);obtain rfl:c=0:=(by omega);obtain rfl:d=0:=by omega
   cases hz
  · have e:prX (n + 1) (.mk 3 ⟨#[]⟩ 0 0 0 0 [])=[46]:=(by simp [prX,Ex.op]);have e2:tsX (n + 1) (.mk 3 ⟨#[]⟩ 0 0 0 0 [])=[sgT [46]]:=(by simp [tsX,Ex.op]);rw [e] at hA ⊢;rw [e2];exact Lx.sign hA (by decide)
  ·
   have e:prX (n + 1) (.mk 11 t 0 0 0 0 [])=t.data.toList:=(by simp [prX,Ex.op,Ex.text]);have e2:tsX (n + 1) (.mk 11 t 0 0 0 0 [])=A1f t:=(by simp [tsX,Ex.op,Ex.text]);rw [e] at hA hs ⊢;rw [e2];unfold splitB at ht;unfold A1f;split at ht
   · rename_i g;rw [if_pos g];rw [Bool.and_eq_true] at ht;have hc:=FJ g;generalize (iH t).1=l1 at *;generalize (iH t).2.1=l2 at *;rw [hc] at hA hs ⊢;obtain ⟨a1,a2⟩:=hA.app;obtain ⟨-,-,a3⟩:=a2.cons;obtain ⟨-,-,a4⟩:=a3.cons;have e1:=gM l1;have e2:=gM l2;have b1:Lx U p [nmT (ofL l1)] (p + l1.length):=(by have:=Lx.word (U:=U) (p:=p) ht.1 (by rw [e1];exact a1) (by rw [e1];exact Stop.at a2 (by decide));rwa [e1] at this);have b2:Lx U (p + l1.length) [sgT [58,58]] (p + l1.length + 2):=Lx.colons a2;have b3:Lx U (p + l1.length + 2) [nmT (ofL l2)] (p + l1.length + 2 + l2.length):=(by have:=Lx.word (U:=U) (p:=p + l1.length + 2) ht.2 (by rw [e2];exact a4) (by rw [e2];rw [show p + l1.length + 2 + l2.length=p + (l1 ++ 58 :: 58 :: l2).length by simp;omega];exact hs);rwa [e2] at this);rw [show p + (l1 ++ 58 :: 58 :: l2).length=p + l1.length + 2 + l2.length by simp;omega];exact (b1.app b2).app b3
   · rename_i g;rw [if_neg g];exact Lx.word ht hA hs
  · rw [DD n o y (z :: K) ho] at hA hs ⊢;rw [DU n o y (z :: K) ho];obtain ⟨a1,a2⟩:=hA.app;rw [List.length_append,<- Nat.add_assoc] at hs ⊢;obtain ⟨g1,g2⟩:=A5i ho (z :: K) (fun u hu=>hk u (List.mem_cons_of_mem _ hu) o) _ a2 hs;exact ((hk y (List.mem_cons_self ..) o).2 p a1 g2).app g1
  ·
   rw [zP n o _ y (by omega)] at hA hs ⊢;rw [Dn n o _ y (by omega)];obtain ⟨a1,a2⟩:=hA.app;obtain ⟨a3,a4⟩:=a2.app;rw [List.length_append,List.length_append,<- Nat.add_assoc,<- Nat.add_assoc] at hs ⊢;have hb:Lx U p (beT o ⟨#[]⟩) (p + (beW o ⟨#[]⟩).length):=by
    rcases ho with rfl | rfl | rfl | rfl | rfl | rfl
    · exact .nil p
    · exact .nil p
    · exact .nil p
    · exact Lx.sign a1 (by decide)
    · exact Lx.sign a1 (by decide)
    · exact Lx.sign a1 (by decide)
   have ha:Lx U (p + (beW o ⟨#[]⟩).length + (kdX (prX n) o y).length) (afT o) (p + (beW o ⟨#[]⟩).length + (kdX (prX n) o y).length + (afW o).length)/\Stop U (p + (beW o ⟨#[]⟩).length + (kdX (prX n) o y).length):=by
    rcases ho with rfl | rfl | rfl | rfl | rfl | rfl
    · exact ⟨Lx.sign a4 (by decide),Stop.at a4 (by decide)⟩
    · exact ⟨Lx.sign a4 (by decide),Stop.at a4 (by decide)⟩
    · exact ⟨Lx.sign a4 (by decide),Stop.at a4 (by decide)⟩
    · exact ⟨.nil _,hs⟩
    · exact ⟨.nil _,hs⟩
    · exact ⟨Lx.sign a4 (by decide),Stop.at a4 (by decide)⟩
   exact hb.app (((hk y (List.mem_cons_self ..) o).2 _ a3 ha.2).app ha.1)
  · rw [zP n 12 t y (by omega)] at hA hs ⊢;rw [Dn n 12 t y (by omega)];change At U p ((t.data.toList ++ [58]) ++ (kdX (prX n) 12 y ++ [])) at hA;change Stop U (p + ((t.data.toList ++ [58]) ++ (kdX (prX n) 12 y ++ [])).length) at hs;show Lx U p ([nmT t,sgT [58]] ++ (kdT (tsX n) 12 y ++ [])) (p + ((t.data.toList ++ [58]) ++ (kdX (prX n) 12 y ++ [])).length);rw [List.append_nil] at hA hs ⊢;rw [List.append_nil];obtain ⟨a1,a2⟩:=hA.app;obtain ⟨a3,a4⟩:=a1.app;obtain ⟨c,l,ec,hc⟩:=B4y (n:=n) (o:=12) (h2 y (List.mem_cons_self ..));have b0:=hA;rw [List.append_assoc,ec] at b0;have b1:=Lx.word ht a3 (Stop.at a4 (by decide));have b2:Lx U (p + t.data.toList.length) [sgT [58]] (p + t.data.toList.length + 1):=Lx.colon b0.app.2 hc.2.2;have e9:p + ((t.data.toList ++ [58]) ++ kdX (prX n) 12 y).length=p + (t.data.toList ++ [58]).length + (kdX (prX n) 12 y).length:=(by rw [List.length_append,Nat.add_assoc]);rw [e9] at hs ⊢;have b3:=(hk y (List.mem_cons_self ..) 12).2 _ a2 hs;have e10:p + (t.data.toList ++ [58]).length=p + t.data.toList.length + 1:=(by rw [List.length_append];rfl);rw [e10] at b3 ⊢;exact (b1.app b2).app b3
end
def stc (h:Nat->Bool):Nat->Nat
 | 0=>0
 | n + 1=>stc h n + (if (h n && !(decide (0 < n) && h (n - 1)))=true then 1 else 0)
theorem Kw (h:Nat->Bool):∀ {n m:Nat},n<=m->stc h n<=stc h m
 | n,0,hm=>by rw [show n=0 by omega];exact Nat.le_refl _
 | n,m + 1,hm=>by
  by_cases e:n=m + 1
  · rw [e];exact Nat.le_refl _
  · exact Nat.le_trans (Kw h (show n<=m by omega)) (Nat.le_add_right _ _)
theorem B3V {h g:Nat->Bool} {lo hi:Nat} (hg:∀ b,b < 256->g b=(h b || (decide (lo<=b) && decide (b < hi + 1)))):∀ n,n<=256->stc g n<=stc h n + (if lo < n then 1 else 0)
 | 0,_=>Nat.le_refl _
 | n + 1,hn=>by
  have ih:=B3V hg n (by omega);unfold stc;have e1:=hg n (by omega);have e2:=hg (n - 1) (by omega);by_cases hs:(g n && !(decide (0 < n) && g (n - 1)))=true
  ·
   rw [if_pos hs];by_cases hl:lo=n
   · subst hl;rw [if_neg (by omega)] at ih;rw [if_pos (show lo < lo + 1 by omega)];omega
   · have hs2:(h n && !(decide (0 < n) && h (n - 1)))=true:=(by rw [e1,e2] at hs;by_cases a1:lo<=n <;> by_cases a2:n < hi + 1 <;> by_cases a3:0 < n <;> by_cases a4:lo<=n - 1 <;> by_cases a5:n - 1 < hi + 1 <;> (try omega) <;> simp [a1,a2,a3,a4,a5] at hs ⊢ <;> revert hs <;> cases h n <;> cases h (n - 1) <;> simp);rw [if_pos hs2];have hm:(if lo < n then 1 else 0)<=(if lo < n + 1 then 1 else 0):=(by split <;> split <;> omega);omega
  · rw [if_neg hs];have hm:(if lo < n then 1 else 0)<=(if lo < n + 1 then 1 else 0):=(by split <;> split <;> omega);omega
theorem A6X {h g:Nat->Bool} (hg:∀ b,b < 256->g b=!h b):∀ n,n<=256->1<=n->stc g n + (if h (n - 1)=true then 1 else 0)=stc h n + (if h 0=true then 0 else 1)
 | 0,_,h1=>by omega
 | 1,_,_=>by
  have e0:=hg 0 (by omega);simp only [stc,e0]
  cases h 0 <;> simp
 | n + 2,hn,_=>by
  have ih:=A6X hg (n + 1) (by omega) (by omega);have e1:=hg (n + 1) (by omega);have e2:=hg n (by omega);rw [show stc g (n + 2)=stc g (n + 1) + (if (g (n + 1) && !(decide (0 < n + 1) && g (n + 1 - 1)))=true then 1 else 0) from rfl,show stc h (n + 2)=stc h (n + 1) + (if (h (n + 1) && !(decide (0 < n + 1) && h (n + 1 - 1)))=true then 1 else 0) from rfl];rw [show n + 1 - 1=n from rfl] at ih ⊢;rw [show n + 2 - 1=n + 1 from rfl,e1,e2]
  revert ih
  cases h n <;> cases h (n + 1) <;> simp <;> omega
theorem TJ (h:Nat->Bool):∀ f k,255<=f + k->k<=255->jL h f k < 255->h (jL h f k + 1)=false
 | 0,k,hf,hk,h2=>by unfold jL at h2;omega
 | f + 1,k,hf,hk,h2=>by
  unfold jL at h2 ⊢;split at h2
  · rename_i g;rw [if_pos g];exact TJ h f (k + 1) (by omega) (by omega) h2
  ·
   rename_i g;rw [if_neg g]
   cases hq:h (k + 1)
   · rfl
   · exact absurd ⟨h2,hq⟩ g
theorem EY (h:Nat->Bool):∀ f low,low<=256->(0 < low->low < 256->h low=true->h (low - 1)=false)->(oK h f low).length + 9 * stc h low<=9 * stc h 256
 | 0,low,h1,_=>by have:=Kw h h1;rw [show oK h 0 low=[] from rfl,List.length_nil];omega
 | f + 1,low,h1,h0=>by
  by_cases h2:low < 256
  ·
   cases h3:h low
   · rw [Aq h2 h3];have ih:=EY h f (low + 1) (by omega) (fun _ _ _=>by rw [Nat.add_sub_cancel];exact h3);have:stc h low<=stc h (low + 1):=Kw h (by omega);omega
   ·
    rw [Ls h2 h3,List.length_append];have hr:=Ce low (jL h 255 low);have hge:=Kq h 255 low;have hle:=Fv h 255 low (by omega)
    have ih:=EY h f (jL h 255 low + 1) (by omega) (fun _ a b=>by
     have:=TJ h 255 low (by omega) (by omega) (by omega)
     rw [this] at b;cases b)
    have hs:stc h (low + 1)=stc h low + 1:=by
     show stc h low + (if _ then 1 else 0)=_;rw [if_pos];rw [h3];by_cases g:0 < low
     · rw [h0 g h2 h3];simp
     · rw [aF g];rfl
    have hm:stc h (low + 1)<=stc h (jL h 255 low + 1):=Kw h (by omega);omega
  · have hm:=Kw h h1;have hc:(oK h (f + 1) low).length=0:=(by rw [Ea h (f + 1) h2];rfl);generalize stc h 256=z at hm ⊢;omega
theorem A2C {s:ByteArray}:∀ f k x y m,fits x->rwsF s f k x=some (y,m)->stc (inS y) 256 + k<=stc (inS x) 256 + m
 | 0,k,x,y,m,hx,h=>by cases h
 | f + 1,k,x,y,m,hx,h=>by
  rw [rwsF.eq_2] at h
  cases hr:rowO s k with
  | none=>rw [hr] at h;cases h
  | some p =>
   obtain ⟨⟨lo,hi⟩,n⟩:=p;rw [hr] at h;simp only at h;have hb:=xW hr;have h1:=B3V (h:=inS x) (g:=inS (orR x lo hi)) (lo:=lo) (hi:=hi) (fun b hb'=>Tz x hb' (by omega)) 256 (Nat.le_refl _);rw [if_pos hb.2.2.2.1] at h1;split at h
   · obtain ⟨h2,h3⟩:orR x lo hi=y/\n=m:=(by simpa using h);subst h2 h3;generalize stc (inS (orR x lo hi)) 256=z1 at *;generalize stc (inS x) 256=z2 at *;omega
   · have:=A2C f n _ y m (qU hx lo hi) h;generalize stc (inS (orR x lo hi)) 256=z1 at *;generalize stc (inS x) 256=z2 at *;generalize stc (inS y) 256=z3 at *;omega
theorem B0R {x:bO} {b:Nat} (hb:b < 256) (hx:fits x):inS (B9v x) b=!inS x b:=Xp _ _ _ _ _ hb hx.1 hx.2.1 hx.2.2.1 hx.2.2.2
theorem B3W:stc (inS set0) 256=0:=by decide +kernel
theorem A9c {s:ByteArray} {i m:Nat} {x:bO} (h:clsO s (i:Int)=some (x,m)):i < m/\(dF (inS x)).data.toList.length + 2<=9 * (m - i):=by
 unfold clsO at h;have hlen:(dF (inS x)).data.toList.length<=9 * stc (inS x) 256 + 2:=by rw [Jd,List.length_cons,List.length_append];have:=EY (inS x) 257 0 (by omega) (fun g=>by omega);rw [show stc (inS x) 0=0 from rfl] at this;generalize stc (inS x) 256=z at *;simp only [List.length_cons,List.length_nil];omega
 split at h
 ·
  generalize bG s ((i:Int) + 1) 94=o at h
  cases hr:rwsF s (s.size + 1) ((i:Int).toNat + 1 + (if o=true then 1 else 0)) set0 with
  | none=>rw [hr] at h;cases h
  | some p =>
   obtain ⟨y,n⟩:=p;rw [hr] at h;have h1:=Af _ _ _ _ _ nD hr;have h2:=A2C _ _ _ _ _ nD hr;rw [Int.toNat_natCast] at h1 h2;rw [B3W] at h2;simp only [FT] at h;split at h
   · cases h
   ·
    obtain ⟨h3,h4⟩:NJ o y=x/\n + 1=m:=(by simpa using h);subst h3 h4
    cases o
    · have h5:stc (inS (NJ false y)) 256=stc (inS y) 256:=rfl;rw [if_neg (by decide)] at h1 h2;rw [h5] at hlen;generalize stc (inS y) 256=z at *;omega
    · have h5:=A6X (h:=inS y) (g:=inS (NJ true y)) (fun b hb=>B0R hb h1.1) 256 (Nat.le_refl _) (by omega);rw [if_pos rfl] at h1 h2;generalize stc (inS (NJ true y)) 256=z1 at *;generalize stc (inS y) 256=z2 at *;split at h5 <;> split at h5 <;> omega
 · cases h
theorem A8e {s:ByteArray} {a m:Nat} {u:ByteArray} (h:signO s a=some (u,m)):u.size<=4/\a + 2<=m:=by
 have h1:=A2O h;refine ⟨h1.2.2,?_⟩;unfold signO at h;split at h
 ·
  rename_i g;obtain ⟨-,rfl⟩:_/\a + hexN s a 6 + 1=m:=by simpa using h
  omega
 · cases h
theorem WG (c:Int):(strOfNums [c]).size=1:=rfl
theorem A9n {s:ByteArray} {k m:Nat} {sp u:ByteArray} (h:escO s k sp=some (u,m)):u.size + k<=m:=by
 unfold escO at h;split at h
 ·
  split at h
  · obtain ⟨rfl,rfl⟩:(⟨#[10]⟩:ByteArray)=u/\k + 1=m:=(by simpa using h);show 1 + k<=_;omega
  ·
   split at h
   · obtain ⟨rfl,rfl⟩:(⟨#[9]⟩:ByteArray)=u/\k + 1=m:=(by simpa using h);show 1 + k<=_;omega
   ·
    split at h
    · obtain ⟨rfl,rfl⟩:strOfNums [byt s k]=u/\k + 1=m:=(by simpa using h);rw [WG];omega
    ·
     split at h
     ·
      split at h
      · obtain ⟨rfl,rfl⟩:strOfNums [valN s (k + 1) 2]=u/\k + 3=m:=(by simpa using h);rw [WG];omega
      · cases h
     ·
      split at h
      · have:=A8e h;omega
      · cases h
 · cases h
theorem A8I {s:ByteArray} {k m:Nat} {sp u:ByteArray} (h:readO s k sp=some (u,m)):u.size + k<=m:=by
 unfold readO at h;split at h
 ·
  split at h
  · obtain ⟨rfl,rfl⟩:strOfNums [byt s k]=u/\k + 1=m:=(by simpa using h);rw [WG];omega
  ·
   split at h
   · have:=A9n h;omega
   · cases h
 · cases h
theorem TW {s:ByteArray}:∀ f k out u m,txtF s f k out=some (u,m)->u.size + k + 1<=out.size + m
 | 0,k,out,u,m=>fun h=>by cases h
 | f + 1,k,out,u,m=>fun h=>by
  rw [txtF.eq_2] at h;split at h
  ·
   split at h
   ·
    split at h
    · cases h
    · obtain ⟨rfl,rfl⟩:out=u/\k + 1=m:=(by simpa using h);omega
   ·
    cases hr:readO s k spT with
    | none=>rw [hr] at h;cases h
    | some p =>
     obtain ⟨v,n⟩:=p;rw [hr] at h;have h1:=A8I hr;have h2:=TW f n _ u m h;rw [ByteArray.size_append] at h2;omega
  · cases h
theorem B3g {s:ByteArray} {i m:Nat} {u:ByteArray} (h:txtO s (i:Int)=some (u,m)):u.size + 2 + i<=m:=by
 unfold txtO at h;split at h
 · have:=TW _ _ _ _ _ h;rw [Int.toNat_natCast] at this;have e:(⟨#[]⟩:ByteArray).size=0:=rfl;omega
 · cases h
section
variable {L:List Tok}
def TA (L:List Tok) (k:Nat) (ts:List Tkn):Prop:=∃ pre post,L.map Tok.k=pre ++ (ts ++ post)/\pre.length=k
theorem TA.app {k:Nat} {a b:List Tkn} (h:TA L k (a ++ b)):TA L k a/\TA L (k + a.length) b:=by obtain ⟨pre,post,h,hk⟩:=h;exact ⟨⟨pre,b ++ post,by rw [h,List.append_assoc],hk⟩,⟨pre ++ a,post,by rw [h];simp,by rw [List.length_append,hk]⟩⟩
theorem TA.cons {k:Nat} {t:Tkn} {l:List Tkn} (h:TA L k (t :: l)):k < L.length/\(tkA L k).k=t/\TA L (k + 1) l:=by
 obtain ⟨pre,post,h,hk⟩:=h;have h1:k < L.length:=by
  have:(L.map Tok.k).length=L.length:=by simp
  rw [<- this,h,List.length_append,List.length_append,List.length_cons];omega
 refine ⟨h1,?_,⟨pre ++ [t],post,by rw [h];simp,by rw [List.length_append,hk];rfl⟩⟩;have h2:(L.map Tok.k)[k]?=some t:=by rw [h,List.getElem?_append_right (by omega)];simp [hk]
 rw [List.getElem?_map] at h2;unfold tkA;rw [List.getD_eq_getElem?_getD]
 cases hq:L[k]? with
 | none=>rw [hq] at h2;cases h2
 | some u=>rw [hq] at h2;simpa using h2
theorem TA.le {k:Nat} {ts:List Tkn} (h:TA L k ts):k + ts.length<=L.length:=by
 obtain ⟨pre,post,h,hk⟩:=h;have:(L.map Tok.k).length=L.length:=by simp
 rw [<- this,h,List.length_append,List.length_append];omega
def isT (t:Tkn) (s:List UInt8):Bool:=t.1 == 4 && t.2.1.data.toList == s
theorem eO {k:Nat} {t:Tkn} (h:(tkA L k).k=t) (s:List UInt8):isS L k s=isT t s:=by subst h;rfl
theorem C1b (l s:List UInt8):isT (sgT l) s=(l == s):=by unfold isT sgT;rw [gM];rfl
theorem dL {t:Tkn} (h:t.1 ≠ 4) (s:List UInt8):isT t s=false:=by unfold isT;rw [aN.2 h];rfl
def zQ (t:Tkn):Bool:=!isT t [42] && !isT t [43] && !isT t [63]
def Ow (t:Tkn):Bool:=!isT t [58] && !isT t [58,58]
def B4k (t:Tkn):Bool:=zQ t && Ow t
def Cw (t:Tkn):Bool:=t.1 == 1 || t.1 == 2 || t.1 == 3 || isT t [38] || isT t [33] || isT t [126] || isT t [46] || isT t [40]
theorem A4m {k:Nat} {t:Tkn} (h:(tkA L k).k=t):jC L k=Cw t:=by subst h;rfl
theorem B6g {t:Tkn} (h:Cw t=true):B4k t=true/\isT t [47]=false:=by
 obtain ⟨kd,tx,st⟩:=t;by_cases h4:kd=4
 · subst h4;unfold Cw isT at h;unfold B4k zQ Ow isT;generalize tx.data.toList=l at *;simp only [Bool.or_eq_true,Bool.and_eq_true,beq_iff_eq] at h;simp at h;rcases h with (((rfl | rfl) | rfl) | rfl) | rfl <;> exact ⟨rfl,rfl⟩
 · have:=dL (t:=(kd,tx,st)) h4;unfold B4k zQ Ow;simp [this]
def Cx (L:List Tok):Nat->Nat->Rs
 | 0=>fun _=>.error (0,0)
 | d + 1=>exO L d
def big (d:Nat):Bool:=d == 0
theorem Pz (d:Nat):exO L d=chO L (lC L (preO L (Cx L d) (big d))):=by cases d <;> rfl
theorem B9A {X:Nat->Rs} {b:Bool} {k m:Nat} {e:Ex} {t:Tkn} (h:tyZ L X b k=.ok (e,m)) (ht:(tkA L m).k=t) (hf:zQ t=true):jG L X b k=.ok (e,m):=by unfold jG;rw [h];simp only;unfold zQ at hf;simp only [Bool.and_eq_true,Bool.not_eq_true'] at hf;rw [eO ht,eO ht,eO ht,hf.1.1,hf.1.2,hf.2];rfl
def B2O (t:Tkn):Bool:=!isT t [38] && !isT t [33] && !isT t [126]
theorem B8a {X:Nat->Rs} {b:Bool} {k m:Nat} {e:Ex} {t u:Tkn} (h:jG L X b k=.ok (e,m)) (ht:(tkA L k).k=t) (hp:B2O t=true) (hu:t.1=1->(tkA L (k + 1)).k=u/\isT u [58]=false):preO L X b k=.ok (e,m):=by
 unfold preO;unfold B2O at hp;simp only [Bool.and_eq_true,Bool.not_eq_true'] at hp;rw [eO ht,eO ht,eO ht,hp.1.1,hp.1.2,hp.2,if_neg (by decide),if_neg (by decide),if_neg (by decide)];rw [if_neg]
 · exact h
 · intro g;simp only [Bool.and_eq_true,beq_iff_eq] at g;obtain ⟨h1,h2⟩:=hu (by rw [<- ht];exact g.1.1);rw [eO h1,h2] at g;exact absurd g.2 (by decide)
theorem B3I {pre:Nat->Rs} {k m:Nat} {e:Ex} {t:Tkn} (h:pre k=.ok (e,m)) (ht:(tkA L m).k=t) (hf:Cw t=false):lC L pre k=.ok (e,m):=by unfold lC;rw [h];simp only;unfold yY;rw [A4m ht,hf];rfl
theorem B7E {sq:Nat->Rs} {k m:Nat} {e:Ex} {t:Tkn} (h:sq k=.ok (e,m)) (ht:(tkA L m).k=t) (hf:isT t [47]=false):chO L sq k=.ok (e,m):=by unfold chO;rw [h];simp only;unfold chL;rw [eO ht,hf];rfl
theorem ZI {n:Nat} {x y:Ex} (h:y ∈ x.kids):bJ n y + 1<=bJ (n + 1) x:=by
 have key:∀ (K:List Ex) (a:Int),y ∈ K\/bJ n y<=a->bJ n y<=K.foldl (fun m y=>max m (bJ n y)) a:=fun K=>by
  induction K with
  | nil=>intro a h;simpa using h
  | cons z K ih =>
   intro a h;rw [List.foldl_cons];refine ih _ ?_;rcases h with h | h
   ·
    rcases List.mem_cons.1 h with rfl | h
    · exact .inr (by omega)
    · exact .inl h
   · exact .inr (by omega)
 have:=key x.kids 0 (.inl h);show _<=x.kids.foldl (fun m y=>max m (bJ n y)) 0 + 1;omega
def HdT (L:List Tok) (k:Nat):Prop:=B2O (tkA L k).k=true/\((tkA L k).k.1=1->isT (tkA L (k + 1)).k [58]=false)
structure Rdx (L:List Tok) (d:Nat) (lv:Int) (k m:Nat) (x:Ex):Prop where
 hd:3<=lv->HdT L k
 prim:lv=4->tyZ L (Cx L d) (big d) k=.ok (x,m)
 suf:3<=lv->zQ (tkA L m).k=true->jG L (Cx L d) (big d) k=.ok (x,m)
 pre:2<=lv->zQ (tkA L m).k=true->preO L (Cx L d) (big d) k=.ok (x,m)
 seq:1<=lv->zQ (tkA L m).k=true->Cw (tkA L m).k=false->lC L (preO L (Cx L d) (big d)) k=.ok (x,m)
 ex:zQ (tkA L m).k=true->Cw (tkA L m).k=false->isT (tkA L m).k [47]=false->exO L d k=.ok (x,m)
theorem Rdx.of_seq {d k m:Nat} {x:Ex} (h:zQ (tkA L m).k=true->Cw (tkA L m).k=false->lC L (preO L (Cx L d) (big d)) k=.ok (x,m)):Rdx L d 1 k m x where
 hd:=fun h=>by omega
 prim:=fun h=>by omega
 suf:=fun h=>by omega
 pre:=fun h=>by omega
 seq:=fun _=>h
 ex:=fun hr hs hc=>by rw [Pz];exact B7E (h hr hs) rfl hc
theorem Rdx.of_pre {d k m:Nat} {x:Ex} (h:zQ (tkA L m).k=true->preO L (Cx L d) (big d) k=.ok (x,m)):Rdx L d 2 k m x where
 hd:=fun h=>by omega
 prim:=fun h=>by omega
 suf:=fun h=>by omega
 pre:=fun _=>h
 seq:=fun _ hr hs=>B3I (h hr) rfl hs
 ex:=fun hr hs hc=>by rw [Pz];exact B7E (B3I (h hr) rfl hs) rfl hc
theorem Rdx.of_suf {d k m:Nat} {x:Ex} (hh:HdT L k) (h:zQ (tkA L m).k=true->jG L (Cx L d) (big d) k=.ok (x,m)):Rdx L d 3 k m x :=
 have hp:=fun hr=>B8a (h hr) rfl hh.1 fun g=>⟨rfl,hh.2 g⟩;have h2:=Rdx.of_pre hp
 { hd:=fun _=>hh,prim:=fun h=>by omega,suf:=fun _=>h,pre:=fun _=>hp,seq:=fun _=>h2.seq (by decide),ex:=h2.ex }
theorem Rdx.of_prim {d k m:Nat} {x:Ex} (hh:HdT L k) (h:tyZ L (Cx L d) (big d) k=.ok (x,m)):Rdx L d 4 k m x :=
 have h3:=Rdx.of_suf hh fun hr=>B9A h rfl hr
 { hd:=fun _=>hh,prim:=fun _=>h,suf:=fun _=>h3.suf (by decide),pre:=fun _=>h3.pre (by decide),seq:=fun _=>h3.seq (by decide),ex:=h3.ex }
theorem kG {k kd:Nat} {tx:ByteArray} {st:bO} (h:(tkA L k).k=(kd,tx,st)):(tkA L k).kd=kd/\(tkA L k).tx=tx/\(tkA L k).st=st :=
 ⟨congrArg (·.1) h,congrArg (·.2.1) h,congrArg (·.2.2) h⟩
theorem VJ {k kd:Nat} {tx:ByteArray} {st:bO} (h:(tkA L k).k=(kd,tx,st)) (h4:kd ≠ 4) (s:List UInt8):isS L k s=false:=by rw [eO h,dL h4]
theorem A6e:∀ (n:Nat) (x:Ex),gQ n x=true->∃ t r,tsX n x=t :: r/\Cw t=true
 | 0,x,h=>by cases h
 | n + 1,x,h=>by
  rw [jN,Bool.and_eq_true,List.all_eq_true] at h;obtain ⟨h1,h2⟩:=h;have hk:∀ y ∈ x.kids,∀ o,∃ t r,kdT (tsX n) o y=t :: r/\Cw t=true:=fun y hy o=>by
   obtain ⟨c,l,e,hc⟩:=A6e n y (h2 y hy);unfold kdT A3x;split
   · exact ⟨sgT [40],_,rfl,by decide⟩
   · exact ⟨c,l,e,hc⟩
  rcases uN h1 with ⟨t,rfl,-,-⟩ | ⟨a,b,c,d,rfl,-⟩ | rfl | ⟨t,rfl,ht⟩ | ⟨o,y,z,K,ho,rfl⟩ | ⟨o,y,ho,rfl⟩ | ⟨t,y,rfl,ht⟩
  · exact ⟨_,[],by simp only [tsX,Ex.op];simp;rfl,rfl⟩
  · exact ⟨_,[],by simp only [tsX,Ex.op];simp;rfl,rfl⟩
  · exact ⟨sgT [46],[],by simp [tsX,Ex.op],by decide⟩
  ·
   have e2:tsX (n + 1) (.mk 11 t 0 0 0 0 [])=A1f t:=(by simp [tsX,Ex.op,Ex.text]);rw [e2];unfold A1f;split
   · exact ⟨_,_,rfl,rfl⟩
   · exact ⟨_,_,rfl,rfl⟩
  · obtain ⟨c,l,e,hc⟩:=hk y (by simp [Ex.kids]) o;exact ⟨c,_,by rw [DU n o y (z :: K) ho,e];rfl,hc⟩
  ·
   obtain ⟨c,l,e,hc⟩:=hk y (by simp [Ex.kids]) o;rw [Dn n o _ y (by omega),e];rcases ho with rfl | rfl | rfl | rfl | rfl | rfl
   · exact ⟨c,_,rfl,hc⟩
   · exact ⟨c,_,rfl,hc⟩
   · exact ⟨c,_,rfl,hc⟩
   · exact ⟨sgT [38],_,rfl,by decide⟩
   · exact ⟨sgT [33],_,rfl,by decide⟩
   · exact ⟨sgT [126],_,rfl,by decide⟩
  · rw [Dn n 12 t y (by omega)];exact ⟨_,_,rfl,rfl⟩
theorem A0S {n:Nat} {o:Int} {y:Ex} (h:gQ n y=true):∃ t r,kdT (tsX n) o y=t :: r/\Cw t=true:=by
 obtain ⟨c,l,e,hc⟩:=A6e n y h;unfold kdT A3x;split
 · exact ⟨sgT [40],_,rfl,by decide⟩
 · exact ⟨c,l,e,hc⟩
def OC (L:List Tok) (d n:Nat) (o:Int) (y:Ex):Prop:=∀ k,TA L k (kdT (tsX n) o y)->Ow (tkA L (k + (kdT (tsX n) o y).length)).k=true->∃ lv,fQ o < lv/\lv<=4/\Rdx L d lv k (k + (kdT (tsX n) o y).length) y
theorem B8f {n d:Nat} {o:Int} {y:Ex} (ho:fQ y.op<=4) (hcl:fQ o < 4) (hd:bJ n y<=(d:Int)) (hp:1<=bJ n y)
  (IH:∀ (d k:Nat),bJ n y<=(d:Int) + 1->TA L k (tsX n y)->Ow (tkA L (k + (tsX n y).length)).k=true->Rdx L d (fQ y.op) k (k + (tsX n y).length) y):OC L d n o y:=fun k h hc=>by
 unfold kdT A3x at h hc ⊢
 cases hb:decide (fQ y.op<=fQ o)
 · rw [hb,if_neg (by decide)] at h hc;rw [if_neg (by decide)];have:=of_decide_eq_false hb;exact ⟨fQ y.op,by omega,ho,IH d k (by omega) h hc⟩
 ·
  rw [hb,if_pos rfl] at h hc;rw [if_pos rfl];have hle:=of_decide_eq_true hb;obtain ⟨e,rfl⟩:∃ e,d=e + 1:=⟨d - 1,by omega⟩;obtain ⟨b1,b2,h1⟩:=h.cons;obtain ⟨h2,h3⟩:=h1.app;obtain ⟨b3,b4,-⟩:=h3.cons;have g:=IH e (k + 1) (by omega) h2 (by rw [b4];decide);have gx:=g.ex (by rw [b4];decide) (by rw [b4];decide) (by rw [b4];decide);have hprim:tyZ L (Cx L (e + 1)) (big (e + 1)) k=.ok (y,k + (sgT [40] :: (tsX n y ++ [sgT [41]])).length):=by obtain ⟨p1,p2,p3⟩:=kG b2;have s40:isS L k [40]=true:=(by rw [eO b2];decide);have s46:isS L k [46]=false:=(by rw [eO b2];decide);have s41:isS L (k + 1 + (tsX n y).length) [41]=true:=(by rw [eO b4];decide);unfold tyZ;rw [p1,if_neg (by decide),if_neg (by decide),if_neg (by decide),s46,if_neg (by decide),s40,if_pos rfl,show big (e + 1)=false from rfl,if_neg (by decide)];show (match exO L e (k + 1) with | .ok (e,m)=>_ | .error e=>_)=_;rw [gx];simp only;rw [s41,if_pos rfl];rw [show k + 1 + (tsX n y).length + 1=k + (sgT [40] :: (tsX n y ++ [sgT [41]])).length by rw [List.length_cons,List.length_append,List.length_cons,List.length_nil];omega]
  exact ⟨4,hcl,by omega,Rdx.of_prim ⟨by rw [b2];decide,fun g=>by rw [b2] at g;exact absurd g (by decide)⟩ hprim⟩
theorem A5L {o:Int}:fQ o<=4/\0<=fQ o:=by constructor <;> unfold fQ <;> (repeat' split) <;> omega
theorem OZ (n:Nat) (x:Ex):1<=bJ (n + 1) x:=by
 have key:∀ (K:List Ex) (a:Int),0<=a->0<=K.foldl (fun m y=>max m (bJ n y)) a:=fun K=>by
  induction K with
  | nil=>intro a h;exact h
  | cons z K ih=>intro a h;rw [List.foldl_cons];exact ih _ (by omega)
 have:=key x.kids 0 (by omega);show _<=x.kids.foldl (fun m y=>max m (bJ n y)) 0 + 1;omega
theorem A9j {n:Nat} {x:Ex} (h:gQ n x=true):1<=bJ n x:=by
 cases n with
 | zero=>cases h
 | succ n=>exact OZ n x
theorem A2G {n d:Nat}:∀ (K:List Ex),(∀ y ∈ K,gQ n y=true/\OC L d n 4 y)->∀ (A:List Ex) (f k:Nat),K.length < f->TA L k (iF [] (K.map (kdT (tsX n) 4))) →
  Ow (tkA L (k + (iF [] (K.map (kdT (tsX n) 4))).length)).k=true->zQ (tkA L (k + (iF [] (K.map (kdT (tsX n) 4))).length)).k=true->Cw (tkA L (k + (iF [] (K.map (kdT (tsX n) 4))).length)).k=false →
  yY L (preO L (Cx L d) (big d)) f A k=.ok (A ++ K,k + (iF [] (K.map (kdT (tsX n) 4))).length)/\zQ (tkA L k).k=true/\Ow (tkA L k).k=true
 | [],hK,A,f,k,hf,hT,hc,hr,hs=>by obtain ⟨g,rfl⟩:∃ g,f=g + 1:=⟨f - 1,by simp at hf;omega⟩;refine ⟨?_,hr,hc⟩;unfold yY;rw [A4m rfl,show Cw (tkA L k).k=false from hs];simp [iF]
 | y :: K,hK,A,f,k,hf,hT,hc,hr,hs=>by
  obtain ⟨g,rfl⟩:∃ g,f=g + 1:=⟨f - 1,by simp at hf;omega⟩;have e1:iF [] ((y :: K).map (kdT (tsX n) 4))=kdT (tsX n) 4 y ++ iF [] (K.map (kdT (tsX n) 4)):=by simp [iF]
  rw [e1] at hT hc hr hs ⊢;rw [List.length_append,<- Nat.add_assoc] at hc hr hs ⊢;obtain ⟨hy,hk⟩:=hK y (List.mem_cons_self ..);obtain ⟨t1,t2⟩:=hT.app;obtain ⟨i1,i2,i3⟩:=A2G K (fun z hz=>hK z (List.mem_cons_of_mem _ hz)) (A ++ [y]) g _ (by simp at hf;omega) t2 hc hr hs;obtain ⟨lv,v1,v2,v3⟩:=hk k t1 i3;obtain ⟨t,r,e2,hst⟩:=A0S (n:=n) (o:=4) hy;rw [e2] at t1;obtain ⟨-,c2,-⟩:=t1.cons;have hfo:=B6g hst;unfold B4k at hfo;rw [Bool.and_eq_true] at hfo;refine ⟨?_,by rw [c2];exact hfo.1.1,by rw [c2];exact hfo.1.2⟩;unfold yY;rw [A4m c2,hst,if_pos rfl,v3.pre (by have:fQ 4=1:=rfl;omega) i2];simp only;rw [i1];simp
theorem B6c {n d k:Nat} {y:Ex} {K:List Ex} (hK:∀ z ∈ y :: K,gQ n z=true/\OC L d n 4 z) (hne:K ≠ []) (hT:TA L k (kdT (tsX n) 4 y ++ iF [] (K.map (kdT (tsX n) 4))))
  (hc:Ow (tkA L (k + (kdT (tsX n) 4 y ++ iF [] (K.map (kdT (tsX n) 4))).length)).k=true) (hr:zQ (tkA L (k + (kdT (tsX n) 4 y ++ iF [] (K.map (kdT (tsX n) 4))).length)).k=true) (hs:Cw (tkA L (k + (kdT (tsX n) 4 y ++ iF [] (K.map (kdT (tsX n) 4))).length)).k=false) :
  lC L (preO L (Cx L d) (big d)) k=.ok (.mk 4 ⟨#[]⟩ 0 0 0 0 (y :: K),k + (kdT (tsX n) 4 y ++ iF [] (K.map (kdT (tsX n) 4))).length):=by
 have hle:=hT.le;rw [List.length_append] at hle;rw [List.length_append,<- Nat.add_assoc] at hc hr hs ⊢;obtain ⟨t1,t2⟩:=hT.app;have hl:K.length<=(iF [] (K.map (kdT (tsX n) 4))).length:=by
  clear hT hle hc hr hs t1 t2 hne
  induction K with
  | nil=>simp
  | cons z K ih =>
   obtain ⟨t,r,e,-⟩:=A0S (n:=n) (o:=4) (hK z (by simp)).1;have:=ih (fun u hu=>hK u (by rcases List.mem_cons.1 hu with rfl | h <;> simp [*]));simp only [List.map_cons,iF,List.nil_append,List.flatten_cons,List.length_append,List.length_cons,e] at this ⊢;omega
 obtain ⟨i1,i2,i3⟩:=A2G K (fun z hz=>hK z (List.mem_cons_of_mem _ hz)) [y] (L.length + 1) _ (by omega) t2 hc hr hs;obtain ⟨lv,v1,v2,v3⟩:=(hK y (List.mem_cons_self ..)).2 k t1 i3;unfold lC;rw [v3.pre (by have:fQ 4=1:=rfl;omega) i2];simp only;rw [i1]
 match K,hne with
 | z :: K,_=>rfl
theorem A5I {n d:Nat}:∀ (K:List Ex),(∀ y ∈ K,gQ n y=true/\OC L d n 5 y)->∀ (A:List Ex) (f k:Nat),K.length < f->TA L k (iF [sgT [47]] (K.map (kdT (tsX n) 5))) →
  Ow (tkA L (k + (iF [sgT [47]] (K.map (kdT (tsX n) 5))).length)).k=true->zQ (tkA L (k + (iF [sgT [47]] (K.map (kdT (tsX n) 5))).length)).k=true->Cw (tkA L (k + (iF [sgT [47]] (K.map (kdT (tsX n) 5))).length)).k=false →
  isT (tkA L (k + (iF [sgT [47]] (K.map (kdT (tsX n) 5))).length)).k [47]=false →
  chL L (lC L (preO L (Cx L d) (big d))) f A k=.ok (A ++ K,k + (iF [sgT [47]] (K.map (kdT (tsX n) 5))).length)/\zQ (tkA L k).k=true/\Ow (tkA L k).k=true/\Cw (tkA L k).k=false
 | [],hK,A,f,k,hf,hT,hc,hr,hs,h47=>by obtain ⟨g,rfl⟩:∃ g,f=g + 1:=⟨f - 1,by simp at hf;omega⟩;refine ⟨?_,hr,hc,hs⟩;unfold chL;rw [eO rfl,show isT (tkA L k).k [47]=false from h47];simp [iF]
 | y :: K,hK,A,f,k,hf,hT,hc,hr,hs,h47=>by
  obtain ⟨g,rfl⟩:∃ g,f=g + 1:=⟨f - 1,by simp at hf;omega⟩;have e1:iF [sgT [47]] ((y :: K).map (kdT (tsX n) 5))=sgT [47] :: (kdT (tsX n) 5 y ++ iF [sgT [47]] (K.map (kdT (tsX n) 5))):=by simp [iF]
  rw [e1] at hT hc hr hs h47 ⊢;have e3:k + (sgT [47] :: (kdT (tsX n) 5 y ++ iF [sgT [47]] (K.map (kdT (tsX n) 5)))).length=k + 1 + (kdT (tsX n) 5 y).length + (iF [sgT [47]] (K.map (kdT (tsX n) 5))).length:=by rw [List.length_cons,List.length_append];omega
  rw [e3] at hc hr hs h47 ⊢;obtain ⟨hy,hk⟩:=hK y (List.mem_cons_self ..);obtain ⟨-,c0,t0⟩:=hT.cons;obtain ⟨t1,t2⟩:=t0.app;obtain ⟨i1,i2,i3,i4⟩:=A5I K (fun z hz=>hK z (List.mem_cons_of_mem _ hz)) (A ++ [y]) g _ (by simp at hf;omega) t2 hc hr hs h47;obtain ⟨lv,v1,v2,v3⟩:=hk (k + 1) t1 i3;refine ⟨?_,by rw [c0];decide,by rw [c0];decide,by rw [c0];decide⟩;unfold chL;rw [eO c0,show isT (sgT [47]) [47]=true by decide,if_pos rfl,v3.seq (by have:fQ 5=0:=rfl;omega) i2 i4];simp only;rw [i1];simp
theorem B7k {n d k:Nat} {y:Ex} {K:List Ex} (hK:∀ z ∈ y :: K,gQ n z=true/\OC L d n 5 z) (hne:K ≠ []) (hT:TA L k (kdT (tsX n) 5 y ++ iF [sgT [47]] (K.map (kdT (tsX n) 5))))
  (hc:Ow (tkA L (k + (kdT (tsX n) 5 y ++ iF [sgT [47]] (K.map (kdT (tsX n) 5))).length)).k=true) (hr:zQ (tkA L (k + (kdT (tsX n) 5 y ++ iF [sgT [47]] (K.map (kdT (tsX n) 5))).length)).k=true) (hs:Cw (tkA L (k + (kdT (tsX n) 5 y ++ iF [sgT [47]] (K.map (kdT (tsX n) 5))).length)).k=false)
  (h47:isT (tkA L (k + (kdT (tsX n) 5 y ++ iF [sgT [47]] (K.map (kdT (tsX n) 5))).length)).k [47]=false) :
  exO L d k=.ok (.mk 5 ⟨#[]⟩ 0 0 0 0 (y :: K),k + (kdT (tsX n) 5 y ++ iF [sgT [47]] (K.map (kdT (tsX n) 5))).length):=by
 have hle:=hT.le;rw [List.length_append] at hle;rw [List.length_append,<- Nat.add_assoc] at hc hr hs h47 ⊢;obtain ⟨t1,t2⟩:=hT.app;have hl:K.length<=(iF [sgT [47]] (K.map (kdT (tsX n) 5))).length:=by
  clear hT hle hc hr hs t1 t2 hne h47 hK
  induction K with
  | nil=>simp
  | cons z K ih =>
   simp only [List.map_cons,iF,List.flatten_cons,List.length_append,List.length_cons,List.length_nil] at ih ⊢;omega
 obtain ⟨i1,i2,i3,i4⟩:=A5I K (fun z hz=>hK z (List.mem_cons_of_mem _ hz)) [y] (L.length + 1) _ (by omega) t2 hc hr hs h47;obtain ⟨lv,v1,v2,v3⟩:=(hK y (List.mem_cons_self ..)).2 k t1 i3;rw [Pz];unfold chO;rw [v3.seq (by have:fQ 5=0:=rfl;omega) i2 i4];simp only;rw [i1]
 match K,hne with
 | z :: K,_=>rfl
end
section
variable {L:List Tok}
theorem Fe:(1:Nat) ≠ 4:=by decide
theorem Rdx.of_ex {d k m:Nat} {x:Ex} (h:zQ (tkA L m).k=true->Cw (tkA L m).k=false->isT (tkA L m).k [47]=false->exO L d k=.ok (x,m)):Rdx L d 0 k m x where
 hd:=fun h=>by omega
 prim:=fun h=>by omega
 suf:=fun h=>by omega
 pre:=fun h=>by omega
 seq:=fun h=>by omega
 ex:=h
theorem B2d:∀ (n:Nat) (x:Ex),gQ n x=true->bW n x->∀ (d k:Nat),bJ n x<=(d:Int) + 1->TA L k (tsX n x)->Ow (tkA L (k + (tsX n x).length)).k=true->Rdx L d (fQ x.op) k (k + (tsX n x).length) x
 | 0,x,h,_,d,k,_,_,_=>by cases h
 | n + 1,x,h,hS,d,k,hd,hT,hc=>by
  rw [jN,Bool.and_eq_true,List.all_eq_true] at h;obtain ⟨h1,h2⟩:=h;have hk:∀ y ∈ x.kids,∀ o,fQ o < 4->gQ n y=true/\OC L d n o y:=fun y hy o ho=>by obtain ⟨j,hj,e⟩:=List.getElem_of_mem hy;have:=ZI (n:=n) hy;exact ⟨h2 y hy,B8f A5L.1 ho (by omega) (A9j (h2 y hy)) (B2d n y (h2 y hy) (hS.2 j y (by rw [aG hj,e])))⟩
  rcases uN h1 with ⟨t,rfl,t1,t2⟩ | ⟨a,b,c,d',rfl,hz⟩ | rfl | ⟨t,rfl,ht⟩ | ⟨o,y,z,K,ho,rfl⟩ | ⟨o,y,ho,rfl⟩ | ⟨t,y,rfl,ht⟩
  · have e2:tsX (n + 1) (.mk 1 t 0 0 0 0 [])=[(2,t,set0)]:=(by simp [tsX,Ex.op,Ex.text]);rw [e2] at hT hc ⊢;obtain ⟨-,b2,-⟩:=hT.cons;obtain ⟨p1,p2,p3⟩:=kG b2;refine Rdx.of_prim ⟨by rw [b2];rfl,fun g=>absurd (p1.symm.trans (show (tkA L k).kd=1 from g)) (by decide)⟩ ?_;unfold tyZ;rw [p1,if_pos rfl,p2];rfl
  · have e2:tsX (n + 1) (.mk 2 ⟨#[]⟩ a b c d' [])=[(3,⟨#[]⟩,B3K (.mk 2 ⟨#[]⟩ a b c d' []))]:=(by simp [tsX,Ex.op]);rw [e2] at hT hc ⊢;obtain ⟨-,b2,-⟩:=hT.cons;obtain ⟨p1,p2,p3⟩:=kG b2;obtain ⟨⟨f0,f1,f2,f3⟩,-⟩:=hS;have g0:((a.toNat:Nat):Int)=a:=Int.toNat_of_nonneg f0.1;have g1:((b.toNat:Nat):Int)=b:=Int.toNat_of_nonneg f1.1;have g2:((c.toNat:Nat):Int)=c:=Int.toNat_of_nonneg f2.1;have g3:((d'.toNat:Nat):Int)=d':=Int.toNat_of_nonneg f3.1;refine Rdx.of_prim ⟨by rw [b2];rfl,fun g=>absurd (p1.symm.trans (show (tkA L k).kd=1 from g)) (by decide)⟩ ?_;unfold tyZ;rw [p1,if_neg (by decide),if_pos rfl,p3];show Except.ok (Ex.mk 2 ⟨#[]⟩ ((a.toNat:Nat):Int) ((b.toNat:Nat):Int) ((c.toNat:Nat):Int) ((d'.toNat:Nat):Int) [],k + 1)=_;rw [g0,g1,g2,g3];rfl
  · have e2:tsX (n + 1) (.mk 3 ⟨#[]⟩ 0 0 0 0 [])=[sgT [46]]:=(by simp [tsX,Ex.op]);rw [e2] at hT hc ⊢;obtain ⟨-,b2,-⟩:=hT.cons;obtain ⟨p1,p2,p3⟩:=kG b2;refine Rdx.of_prim ⟨by rw [b2];decide,fun g=>by rw [b2] at g;exact absurd g (by decide)⟩ ?_;unfold tyZ;rw [p1,if_neg (by decide),if_neg (by decide),if_neg (by decide),show isS L k [46]=true by rw [eO b2];decide,if_pos rfl];rfl
  ·
   have e2:tsX (n + 1) (.mk 11 t 0 0 0 0 [])=A1f t:=(by simp [tsX,Ex.op,Ex.text]);rw [e2] at hT hc ⊢;unfold A1f at hT hc ⊢;unfold splitB at ht;by_cases g:(iH t).2.2=true
   ·
    rw [if_pos g] at hT hc ht ⊢;rw [Bool.and_eq_true] at ht;have hcut:=FJ g;generalize (iH t).1=l1 at *;generalize (iH t).2.1=l2 at *;obtain ⟨-,b2,t3⟩:=hT.cons;obtain ⟨-,b4,t5⟩:=t3.cons;obtain ⟨-,b6,-⟩:=t5.cons;obtain ⟨p1,p2,p3⟩:=kG b2;obtain ⟨q1,q2,q3⟩:=kG b6;refine Rdx.of_prim ⟨by rw [b2];unfold B2O;rw [dL (t:=nmT _) Fe,dL (t:=nmT _) Fe,dL (t:=nmT _) Fe];rfl,fun _=>by rw [b4];decide⟩ ?_;unfold tyZ yX;rw [p1,if_neg (by decide),if_neg (by decide),if_pos rfl,p2,if_pos ht.1,show isS L (k + 1) [58,58]=true by rw [eO b4];decide,if_pos rfl,q1,q2,ht.2,show ((1:Nat) == 1 && true)=true from rfl,if_pos rfl]
    rw [show ofL l1 ++ (⟨#[58,58]⟩:ByteArray) ++ ofL l2=t by
     apply kT;rw [hcut,ByteArray.data_append,ByteArray.data_append];simp only [Array.toList_append]
     rw [gM,gM];simp]
    rfl
   · rw [if_neg g] at hT hc ht ⊢;obtain ⟨-,b2,-⟩:=hT.cons;obtain ⟨p1,p2,p3⟩:=kG b2;have hc':Ow (tkA L (k + 1)).k=true:=hc;unfold Ow at hc';simp only [Bool.and_eq_true,Bool.not_eq_true'] at hc';refine Rdx.of_prim ⟨by rw [b2];unfold B2O;rw [dL (t:=nmT _) Fe,dL (t:=nmT _) Fe,dL (t:=nmT _) Fe];rfl,fun _=>hc'.1⟩ ?_;unfold tyZ yX;rw [p1,if_neg (by decide),if_neg (by decide),if_pos rfl,p2,if_pos ht,show isS L (k + 1) [58,58]=false from hc'.2,if_neg (by decide)];rfl
  ·
   rw [DU n o y (z :: K) ho] at hT hc ⊢;rcases ho with rfl | rfl
   · exact Rdx.of_seq fun hr hs=>B6c (fun u hu=>hk u hu 4 (by decide)) (by simp) hT hc hr hs
   · have key:=fun hr hs h47=>B7k (fun u hu=>hk u hu 5 (by decide)) (by simp) hT hc hr hs h47;exact Rdx.of_ex key
  ·
   rw [Dn n o _ y (by omega)] at hT hc ⊢;obtain ⟨t1,t2⟩:=hT.app;obtain ⟨t3,t4⟩:=t2.app;rw [List.length_append,List.length_append,<- Nat.add_assoc,<- Nat.add_assoc] at hc ⊢;rcases ho with rfl | rfl | rfl | rfl | rfl | rfl
   · obtain ⟨-,b2,-⟩:=(show TA L (k + (kdT (tsX n) 6 y).length) [sgT [42]] from t4).cons;obtain ⟨lv,v1,v2,v3⟩:=(hk y (List.mem_cons_self ..) 6 (by decide)).2 k t3 (by rw [b2];decide);have:fQ 6=3:=rfl;refine Rdx.of_suf (v3.hd (by omega)) fun _=>?_;unfold jG;rw [v3.prim (by omega)];simp only;rw [show isS L (k + (kdT (tsX n) 6 y).length) [42]=true by rw [eO b2];decide,if_pos rfl];rfl
   · obtain ⟨-,b2,-⟩:=(show TA L (k + (kdT (tsX n) 7 y).length) [sgT [43]] from t4).cons;obtain ⟨lv,v1,v2,v3⟩:=(hk y (List.mem_cons_self ..) 7 (by decide)).2 k t3 (by rw [b2];decide);have:fQ 7=3:=rfl;refine Rdx.of_suf (v3.hd (by omega)) fun _=>?_;unfold jG;rw [v3.prim (by omega)];simp only;rw [show isS L (k + (kdT (tsX n) 7 y).length) [42]=false by rw [eO b2];decide,if_neg (by decide),show isS L (k + (kdT (tsX n) 7 y).length) [43]=true by rw [eO b2];decide,if_pos rfl];rfl
   · obtain ⟨-,b2,-⟩:=(show TA L (k + (kdT (tsX n) 8 y).length) [sgT [63]] from t4).cons;obtain ⟨lv,v1,v2,v3⟩:=(hk y (List.mem_cons_self ..) 8 (by decide)).2 k t3 (by rw [b2];decide);have:fQ 8=3:=rfl;refine Rdx.of_suf (v3.hd (by omega)) fun _=>?_;unfold jG;rw [v3.prim (by omega)];simp only;rw [show isS L (k + (kdT (tsX n) 8 y).length) [42]=false by rw [eO b2];decide,if_neg (by decide),show isS L (k + (kdT (tsX n) 8 y).length) [43]=false by rw [eO b2];decide,if_neg (by decide),show isS L (k + (kdT (tsX n) 8 y).length) [63]=true by rw [eO b2];decide,if_pos rfl];rfl
   · obtain ⟨-,b2,-⟩:=(show TA L k [sgT [38]] from t1).cons;refine Rdx.of_pre fun hr=>?_;obtain ⟨lv,v1,v2,v3⟩:=(hk y (List.mem_cons_self ..) 9 (by decide)).2 (k + 1) t3 hc;have:fQ 9=2:=rfl;unfold preO;rw [show isS L k [38]=true by rw [eO b2];decide,if_pos rfl,v3.suf (by omega) hr];rfl
   · obtain ⟨-,b2,-⟩:=(show TA L k [sgT [33]] from t1).cons;refine Rdx.of_pre fun hr=>?_;obtain ⟨lv,v1,v2,v3⟩:=(hk y (List.mem_cons_self ..) 10 (by decide)).2 (k + 1) t3 hc;have:fQ 10=2:=rfl;unfold preO;rw [show isS L k [38]=false by rw [eO b2];decide,if_neg (by decide),show isS L k [33]=true by rw [eO b2];decide,if_pos rfl,v3.suf (by omega) hr];rfl
   · obtain ⟨-,b2,-⟩:=(show TA L k [sgT [126]] from t1).cons;obtain ⟨-,b4,-⟩:=(show TA L (k + 1 + (kdT (tsX n) 13 y).length) [sgT [126]] from t4).cons;refine Rdx.of_pre fun hr=>?_;obtain ⟨lv,v1,v2,v3⟩:=(hk y (List.mem_cons_self ..) 13 (by decide)).2 (k + 1) t3 (by rw [b4];decide);have:fQ 13=2:=rfl;unfold preO;rw [show isS L k [38]=false by rw [eO b2];decide,if_neg (by decide),show isS L k [33]=false by rw [eO b2];decide,if_neg (by decide),show isS L k [126]=true by rw [eO b2];decide,if_pos rfl,v3.suf (by omega) (by rw [b4];decide)];simp only;rw [show isS L (k + 1 + (kdT (tsX n) 13 y).length) [126]=true by rw [eO b4];decide,if_pos rfl];rfl
  · rw [Dn n 12 t y (by omega)] at hT hc ⊢;change TA L k (nmT t :: sgT [58] :: (kdT (tsX n) 12 y ++ [])) at hT;change Ow (tkA L (k + (nmT t :: sgT [58] :: (kdT (tsX n) 12 y ++ [])).length)).k=true at hc;show Rdx L d 2 k (k + (nmT t :: sgT [58] :: (kdT (tsX n) 12 y ++ [])).length) _;rw [List.append_nil] at hT hc ⊢;have e3:k + (nmT t :: sgT [58] :: kdT (tsX n) 12 y).length=k + 2 + (kdT (tsX n) 12 y).length:=(by rw [List.length_cons,List.length_cons];omega);rw [e3] at hc ⊢;obtain ⟨-,b2,t2⟩:=hT.cons;obtain ⟨b3,b4,t3⟩:=t2.cons;obtain ⟨p1,p2,p3⟩:=kG b2;refine Rdx.of_pre fun hr=>?_;obtain ⟨lv,v1,v2,v3⟩:=(hk y (List.mem_cons_self ..) 12 (by decide)).2 (k + 2) t3 hc;have:fQ 12=2:=rfl;unfold preO;rw [VJ b2 (by decide),VJ b2 (by decide),VJ b2 (by decide),if_neg (by decide),if_neg (by decide),if_neg (by decide),p1,p2,show isS L (k + 1) [58]=true by rw [eO b4];decide,aT b3,show ((1:Nat) == 1 && true && true)=true from rfl,if_pos rfl,if_pos ht,v3.suf (by omega) hr];rfl
end
def wfs:Nat->Ex->Bool
 | 0,_=>true
 | n + 1,x=>uB x && x.kids.all (wfs n)
def OkX (x:Ex):Prop:=∀ n,wfs n x=true
theorem OkX.list {o:Int} {t:ByteArray} {a b c d:Int} {K:List Ex} (h:uB (.mk o t a b c d K)=true) (hK:∀ y ∈ K,OkX y):OkX (.mk o t a b c d K):=fun n=>by
 cases n with
 | zero=>rfl
 | succ n=>unfold wfs;rw [h,Bool.true_and];exact List.all_eq_true.2 fun y hy=>hK y hy n
def B7s:Nat->Ex->Prop
 | 0,_=>False
 | n + 1,x=>∀ y ∈ x.kids,B7s n y
theorem OkX.all {x:Ex} (h:OkX x):∀ n,B7s n x->gQ n x=true:=fun n=>by
 induction n generalizing x with
 | zero=>intro g;exact g.elim
 | succ n ih =>
  intro g;have h1:=h (n + 1);unfold wfs at h1;rw [Bool.and_eq_true] at h1;rw [jN,h1.1,Bool.true_and]
  exact List.all_eq_true.2 fun y hy=>ih (fun m=>by
   have h2:=h (m + 1);unfold wfs at h2;rw [Bool.and_eq_true] at h2
   exact List.all_eq_true.1 h2.2 y hy) (g y hy)
def cost (t:Tok):Nat:=(if t.kd=2 then (gU t.tx).data.toList.length else if t.kd=3 then (dF (inS t.st)).data.toList.length else t.tx.size) + 2
section
variable {L:List Tok}
def cu (L:List Tok):Nat->Nat
 | 0=>0
 | k + 1=>cu L k + cost (tkA L k)
theorem Ee {k:Nat} {s:List UInt8} (h:isS L k s=true):cu L (k + 1)=cu L k + s.length + 2:=by unfold isS at h;rw [Bool.and_eq_true,beq_iff_eq,beq_iff_eq] at h;show cu L k + cost (tkA L k)=_;unfold cost;rw [h.1,if_neg (by decide),if_neg (by decide),<- h.2,fJ];omega
def OkT (t:Tok):Prop:=(t.kd=2->1<=t.tx.size/\t.tx.size<=40)/\(t.kd=3->fits t.st/\t.st ≠ set0)
theorem B8O (hL:∀ t ∈ L,OkT t) (k:Nat):OkT (tkA L k):=by
 unfold tkA;rw [List.getD_eq_getElem?_getD]
 cases h:L[k]? with
 | none=>exact ⟨fun g=>absurd g (by decide),fun g=>absurd g (by decide)⟩
 | some t=>exact hL t (aM h)
def Bdc (L:List Tok) (lv:Int) (x:Ex) (k m:Nat):Prop:=OkX x/\∀ n,(prX n x).length + (if fQ x.op < lv then 2 else 0) + 1 + cu L k<=cu L m
def Rbc (L:List Tok) (lv:Int) (r:Rs) (k:Nat):Prop:=∀ x m,r=.ok (x,m)->Bdc L lv x k m
theorem Rbc.err {lv:Int} {k:Nat} (e:Int × Int):Rbc L lv (.error e) k:=fun x m h=>by cases h
theorem Rbc.ok {lv:Int} {k m:Nat} {x:Ex} (h:Bdc L lv x k m):Rbc L lv (.ok (x,m)) k:=fun y n e=>by
 obtain ⟨rfl,rfl⟩:x=y/\m=n:=by simpa using e
 exact h
theorem Bdc.less {lv lw:Int} {x:Ex} {k m:Nat} (h:Bdc L lv x k m) (hl:lw<=lv):Bdc L lw x k m:=⟨h.1,fun n=>by
 have:=h.2 n;by_cases g:fQ x.op < lw
 · rw [if_pos (show fQ x.op < lv by omega)] at this;rw [if_pos g];exact this
 · rw [if_neg g];split at this <;> omega⟩
theorem Bdc.leaf {x:Ex} {k m:Nat} (hx:uB x=true) (hk:x.kids=[]) (h4:fQ x.op=4) (hn:∀ n,(prX (n + 1) x).length + 1 + cu L k<=cu L m):Bdc L 4 x k m:=by
 refine ⟨?_,fun n=>?_⟩
 · obtain ⟨o,t,a,b,c,d,K⟩:=x;obtain rfl:K=[]:=hk;exact OkX.list hx (fun y hy=>absurd hy List.not_mem_nil)
 ·
  rw [if_neg (by omega)]
  cases n with
  | zero=>have:=hn 0;show 0 + 0 + 1 + _<=_;omega
  | succ n=>have:=hn n;omega
theorem A3Q {n:Nat} {o:Int} {y:Ex}:(kdX (prX n) o y).length<=(prX n y).length + (if fQ y.op < fQ o + 1 then 2 else 0):=by
 unfold kdX Ph;by_cases g:fQ y.op<=fQ o
 · rw [aT g,if_pos rfl,if_pos (by omega)];simp
 · rw [aF g,if_neg (by decide),if_neg (by omega)];exact Nat.le_refl _
theorem B7K {n:Nat} {o:Int} {y:Ex}:(prX n y).length + (if fQ y.op < fQ o then 2 else 0)<=(kdX (prX n) o y).length:=by
 unfold kdX Ph;by_cases g:fQ y.op<=fQ o
 · rw [aT g,if_pos rfl,List.length_cons,List.length_append];simp only [List.length_cons,List.length_nil];split <;> omega
 · rw [aF g,if_neg (show ¬ fQ y.op < fQ o by omega),if_neg (show ¬ (false=true) by decide)];exact Nat.le_refl _
theorem Bdc.one {o:Int} {t:ByteArray} {y:Ex} {k j i m:Nat} (ho:o=6\/o=7\/o=8\/o=9\/o=10\/o=12\/o=13) (hx:uB (.mk o t 0 0 0 0 [y])=true) (hy:Bdc L (fQ o + 1) y j i)
  (hc:(beW o t).length + (afW o).length + cu L k + cu L i<=cu L m + cu L j):Bdc L (fQ o) (.mk o t 0 0 0 0 [y]) k m:=by
 refine ⟨OkX.list hx (fun z hz=>by rw [List.mem_singleton.1 hz];exact hy.1),fun n=>?_⟩;show _ + (if fQ o < fQ o then 2 else 0) + 1 + _<=_;rw [if_neg (by omega)]
 cases n with
 | zero=>have:=hy.2 0;show 0 + 0 + 1 + _<=_;omega
 | succ n =>
  rw [zP n o t y ho,List.length_append,List.length_append];have h1:=A3Q (n:=n) (o:=o) (y:=y);have h2:=hy.2 n;omega
theorem Nu {o:Int} {t:ByteArray} (h:dZ o t=true) (ho:o=1\/o=3\/o=11):uB (lF o t)=true:=by show (dZ o t && dJ o 0 && !((o == 2) == zB 0 0 0 0))=true;rw [h];rcases ho with rfl | rfl | rfl <;> rfl
theorem Bo {o:Int} {t:ByteArray} {y:Ex} (h:dZ o t=true) (ho:o=6\/o=7\/o=8\/o=9\/o=10\/o=12\/o=13):uB (.mk o t 0 0 0 0 [y])=true:=by show (dZ o t && dJ o 1 && !((o == 2) == zB 0 0 0 0))=true;rw [h];rcases ho with rfl | rfl | rfl | rfl | rfl | rfl | rfl <;> rfl
theorem tN {o:Int} (h:o ≠ 1/\o ≠ 11/\o ≠ 12):dZ o ⟨#[]⟩=true:=by unfold dZ;rw [if_neg h.1,if_neg h.2.1,if_neg h.2.2,gY];rfl
theorem B9t {t:ByteArray} (h:bN t=true):∀ x ∈ t.data.toList,x ≠ 58:=fun x hx e=>by obtain ⟨-,c,l,e1,-,hl⟩:=nA h;rw [e1] at hx;have:=hl x hx;rw [e] at this;exact absurd this (by decide)
theorem A8l {t:ByteArray} (h:bN t=true):dZ 11 t=true:=by
 have hg:¬ 0<=Lib.index t.data.toList [58,58]:=fun g=>by
  obtain ⟨i,hi⟩:∃ i:Nat,Lib.index t.data.toList [58,58]=(i:Int):=⟨_,(Int.toNat_of_nonneg g).symm⟩;obtain ⟨r,hr⟩:=List.isPrefixOf_iff_prefix.1 (GR hi);have h1:(58:UInt8) ∈ t.data.toList.drop i:=by rw [<- hr];simp
  exact B9t h 58 (List.mem_of_mem_drop h1) rfl
 have hc:(iH t).2.2=false:=by unfold iH Lib.cut;rw [if_neg hg]
 rw [Cn];unfold splitB;rw [hc,if_neg (by decide)];exact h
theorem B3a {t u:ByteArray} (h:bN t=true) (g:bN u=true):dZ 11 (t ++ (⟨#[58,58]⟩:ByteArray) ++ u)=true:=by
 have hd:(t ++ (⟨#[58,58]⟩:ByteArray) ++ u).data.toList=t.data.toList ++ (58 :: 58 :: u.data.toList):=by rw [ByteArray.data_append,ByteArray.data_append];simp only [Array.toList_append];simp
 have hi:Lib.index (t ++ (⟨#[58,58]⟩:ByteArray) ++ u).data.toList [58,58]=(t.data.toList.length:Int):=by
  rw [hd];refine Lib.index_first (by rw [List.length_append];omega) ?_ (fun j hj=>?_)
  · unfold Lib.occAt;rw [List.drop_left];rfl
  · unfold Lib.occAt;rw [List.drop_append_of_le_length (by omega),List.drop_eq_getElem_cons hj,List.cons_append];have:=B9t h _ (List.getElem_mem hj);show ((58:UInt8) == _ && _)=false;rw [aN.2 (fun e=>this e.symm)];rfl
 have hc:iH (t ++ (⟨#[58,58]⟩:ByteArray) ++ u)=(t.data.toList,u.data.toList,true):=by unfold iH Lib.cut;rw [hi,if_pos (Int.natCast_nonneg _),Int.toNat_natCast,hd,List.take_left];show (t.data.toList,(t.data.toList ++ (58 :: 58 :: u.data.toList)).drop (t.data.toList.length + 2),true)=_;rw [<- List.drop_drop,List.drop_left];rfl
 rw [Cn];unfold splitB;rw [hc,if_pos rfl];show (bN (ofL t.data.toList) && bN (ofL u.data.toList))=true;rw [pF,pF,h,g];rfl
theorem B6L (k:Nat) (hkd:(tkA L k).kd=1):Rbc L 4 (yX L k) k:=by
 have hcost:cu L (k + 1)=cu L k + (tkA L k).tx.size + 2:=by show cu L k + cost (tkA L k)=_;unfold cost;rw [hkd,if_neg (by decide),if_neg (by decide)];omega
 unfold yX;split
 ·
  rename_i h1;split
  ·
   rename_i h58;split
   · rename_i h2;rw [Bool.and_eq_true,beq_iff_eq] at h2;have c2:=Ee h58;have c3:cu L (k + 3)=cu L (k + 2) + (tkA L (k + 2)).tx.size + 2:=(by show cu L (k + 2) + cost (tkA L (k + 2))=_;unfold cost;rw [h2.1,if_neg (by decide),if_neg (by decide)];omega);have hsz:((tkA L k).tx ++ (⟨#[58,58]⟩:ByteArray) ++ (tkA L (k + 2)).tx).size=(tkA L k).tx.size + 2 + (tkA L (k + 2)).tx.size:=(by rw [ByteArray.size_append,ByteArray.size_append];rfl);refine Rbc.ok (Bdc.leaf (Nu (B3a h1 h2.2) (by decide)) rfl rfl fun n=>?_);have e:prX (n + 1) (lF 11 ((tkA L k).tx ++ (⟨#[58,58]⟩:ByteArray) ++ (tkA L (k + 2)).tx))=((tkA L k).tx ++ (⟨#[58,58]⟩:ByteArray) ++ (tkA L (k + 2)).tx).data.toList:=(by simp [prX,lF,Ex.op,Ex.text]);rw [e,fJ,hsz];simp only [List.length_cons,List.length_nil] at c2;rw [show k + 1 + 1=k + 2 from rfl] at c2;omega
   · exact Rbc.err _
  · refine Rbc.ok (Bdc.leaf (Nu (A8l h1) (by decide)) rfl rfl fun n=>?_);have e:prX (n + 1) (lF 11 (tkA L k).tx)=(tkA L k).tx.data.toList:=(by simp [prX,lF,Ex.op,Ex.text]);rw [e,fJ];omega
 · exact Rbc.err _
theorem B2Q (hL:∀ t ∈ L,OkT t) {X:Nat->Rs} {big:Bool} (hX:∀ j,Rbc L 0 (X j) j) (k:Nat):Rbc L 4 (tyZ L X big k) k:=by
 have hk:=B8O hL k;unfold tyZ;split
 ·
  rename_i h2;refine Rbc.ok (Bdc.leaf (Nu ?_ (by decide)) rfl rfl fun n=>?_)
  · have:=hk.1 h2;unfold dZ;rw [if_pos rfl,gY,aF (by omega),aT (by omega)];rfl
  · have e:prX (n + 1) (lF 1 (tkA L k).tx)=(gU (tkA L k).tx).data.toList:=(by simp [prX,lF,Ex.op,Ex.text]);rw [e];show _<=cu L k + cost (tkA L k);unfold cost;rw [if_pos h2];omega
 split
 ·
  rename_i h2 h3;have hs:=hk.2 h3;refine Rbc.ok (Bdc.leaf ?_ rfl rfl fun n=>?_)
  ·
   show (dZ 2 ⟨#[]⟩ && dJ 2 0 && !(((2:Int) == 2) == zB ((tkA L k).st.1:Int) ((tkA L k).st.2.1:Int) ((tkA L k).st.2.2.1:Int) ((tkA L k).st.2.2.2:Int)))=true;rw [tN (by decide),show dJ 2 0=true from rfl]
   cases hz:zB ((tkA L k).st.1:Int) ((tkA L k).st.2.1:Int) ((tkA L k).st.2.2.1:Int) ((tkA L k).st.2.2.2:Int)
   · rfl
   · exfalso;obtain ⟨z1,z2,z3,z4⟩:=C0d hz;apply hs.2;generalize (tkA L k).st=st at *;obtain ⟨a,b,c,d⟩:=st;simp only [Int.natCast_eq_zero] at z1 z2 z3 z4;subst z1 z2 z3 z4;rfl
  · have e:prX (n + 1) (.mk 2 ⟨#[]⟩ ((tkA L k).st.1:Int) ((tkA L k).st.2.1:Int) ((tkA L k).st.2.2.1:Int) ((tkA L k).st.2.2.2:Int) [])=(dF (inS (tkA L k).st)).data.toList:=(by simp [prX,Ex.op];rfl);rw [e];show _<=cu L k + cost (tkA L k);unfold cost;rw [if_neg h2,if_pos h3];omega
 split
 · rename_i h1;exact B6L k h1
 split
 ·
  rename_i h46;have c1:=Ee h46;refine Rbc.ok (Bdc.leaf (Nu (tN (by decide)) (by decide)) rfl rfl fun n=>?_);have e:prX (n + 1) (lF 3 ⟨#[]⟩)=[46]:=by simp [prX,lF,Ex.op]
  rw [e,c1];simp only [List.length_cons,List.length_nil];omega
 split
 ·
  rename_i h40;have c1:=Ee h40;split
  · exact Rbc.err _
  ·
   cases hx:X (k + 1) with
   | error e=>exact Rbc.err e
   | ok p =>
    obtain ⟨x,m⟩:=p;show Rbc L 4 (if isS L m [41]=true then _ else _) k;split
    · rename_i h41;have c2:=Ee h41;have h:=hX _ _ _ hx;refine Rbc.ok ⟨h.1,fun n=>?_⟩;have:=h.2 n;have hp:=(A5L (o:=x.op)).2;rw [if_neg (by omega)] at this;simp only [List.length_cons,List.length_nil] at c1 c2;split <;> omega
    · exact Rbc.err _
 · exact Rbc.err _
theorem B6l (hL:∀ t ∈ L,OkT t) {X:Nat->Rs} {big:Bool} (hX:∀ j,Rbc L 0 (X j) j) (k:Nat):Rbc L 3 (jG L X big k) k:=by
 unfold jG
 cases hp:tyZ L X big k with
 | error e=>exact Rbc.err e
 | ok p =>
  obtain ⟨x,m⟩:=p;have h1:=B2Q hL hX k x m hp;show Rbc L 3 (if isS L m [42]=true then _ else if isS L m [43]=true then _ else if isS L m [63]=true then _ else _) k;split
  · rename_i h;have c:=Ee h;refine Rbc.ok (Bdc.one (o:=6) (by decide) (Bo (tN (by decide)) (by decide)) h1 ?_);simp only [List.length_cons,List.length_nil] at c;rw [show (beW 6 ⟨#[]⟩).length=0 from rfl,show (afW 6).length=1 from rfl];omega
  split
  · rename_i h;have c:=Ee h;refine Rbc.ok (Bdc.one (o:=7) (by decide) (Bo (tN (by decide)) (by decide)) h1 ?_);simp only [List.length_cons,List.length_nil] at c;rw [show (beW 7 ⟨#[]⟩).length=0 from rfl,show (afW 7).length=1 from rfl];omega
  split
  · rename_i h;have c:=Ee h;refine Rbc.ok (Bdc.one (o:=8) (by decide) (Bo (tN (by decide)) (by decide)) h1 ?_);simp only [List.length_cons,List.length_nil] at c;rw [show (beW 8 ⟨#[]⟩).length=0 from rfl,show (afW 8).length=1 from rfl];omega
  · exact Rbc.ok (h1.less (by decide))
theorem Rbc.kid {o:Int} {t:ByteArray} {k j:Nat} {r:Rs} (ho:o=9\/o=10\/o=12) (ht:dZ o t=true) (h:Rbc L 3 r j) (hc:(beW o t).length + cu L k<=cu L j):Rbc L 2 (Qh (fun e=>.mk o t 0 0 0 0 [e]) r) k:=by
 cases r with
 | error e=>exact Rbc.err e
 | ok p =>
  obtain ⟨x,m⟩:=p;refine Rbc.ok ?_;have h1:=h x m rfl;rcases ho with rfl | rfl | rfl
  · exact Bdc.one (o:=9) (by decide) (Bo ht (by decide)) h1 (by rw [show (afW 9).length=0 from rfl];omega)
  · exact Bdc.one (o:=10) (by decide) (Bo ht (by decide)) h1 (by rw [show (afW 10).length=0 from rfl];omega)
  · exact Bdc.one (o:=12) (by decide) (Bo ht (by decide)) h1 (by rw [show (afW 12).length=0 from rfl];omega)
theorem B5x (hL:∀ t ∈ L,OkT t) {X:Nat->Rs} {big:Bool} (hX:∀ j,Rbc L 0 (X j) j) (k:Nat):Rbc L 2 (preO L X big k) k:=by
 have hS:=B6l (big:=big) hL hX;unfold preO;split
 · rename_i h;have c:=Ee h;simp only [List.length_cons,List.length_nil] at c;exact Rbc.kid (o:=9) (by decide) (tN (by decide)) (hS (k + 1)) (by rw [show (beW 9 ⟨#[]⟩).length=1 from rfl];omega)
 split
 · rename_i h;have c:=Ee h;simp only [List.length_cons,List.length_nil] at c;exact Rbc.kid (o:=10) (by decide) (tN (by decide)) (hS (k + 1)) (by rw [show (beW 10 ⟨#[]⟩).length=1 from rfl];omega)
 split
 ·
  rename_i h;have c:=Ee h;simp only [List.length_cons,List.length_nil] at c
  cases hp:jG L X big (k + 1) with
  | error e=>exact Rbc.err e
  | ok p =>
   obtain ⟨x,m⟩:=p;have h1:=hS (k + 1) x m hp;show Rbc L 2 (if isS L m [126]=true then _ else _) k;split
   · rename_i h2;have c2:=Ee h2;simp only [List.length_cons,List.length_nil] at c2;exact Rbc.ok (Bdc.one (o:=13) (by decide) (Bo (tN (by decide)) (by decide)) h1 (by rw [show (beW 13 ⟨#[]⟩).length=1 from rfl,show (afW 13).length=1 from rfl];omega))
   · exact Rbc.err _
 split
 ·
  rename_i h;simp only [Bool.and_eq_true,beq_iff_eq] at h;have c2:=Ee h.2;simp only [List.length_cons,List.length_nil] at c2;have c1:cu L (k + 1)=cu L k + (tkA L k).tx.size + 2:=by show cu L k + cost (tkA L k)=_;unfold cost;rw [h.1.1,if_neg (by decide),if_neg (by decide)];omega
  split
  ·
   rename_i hw
   exact Rbc.kid (o:=12) (by decide) hw (hS (k + 2)) (by
    rw [show (beW 12 (tkA L k).tx).length=(tkA L k).tx.size + 1 by show ((tkA L k).tx.data.toList ++ [58]).length=_;rw [List.length_append,fJ];rfl];rw [show k + 1 + 1=k + 2 from rfl] at c2
    omega)
  · exact Rbc.err _
 · exact fun x m e=>(hS k x m e).less (by decide)
def Rm (o:Int) (n:Nat) (K:List Ex):Nat:=(K.map (fun y=>(kdX (prX n) o y).length + 1)).sum
theorem B0w {o:Int} {e k0:Nat} {c:Nat->Bool} {nx:Nat->Rs} (hn:∀ j x m,c j=true->nx j=.ok (x,m)->OkX x/\∀ n,(kdX (prX n) o x).length + 1 + e + cu L j<=cu L m) :
  ∀ (f:Nat) (A K:List Ex) (k m:Nat),(∀ x ∈ A,OkX x)->1<=A.length->(∀ n,Rm o n A + e * (A.length - 1) + cu L k0<=cu L k)->lsL c nx f A k=.ok (K,m) →
  (∀ x ∈ K,OkX x)/\1<=K.length/\∀ n,Rm o n K + e * (K.length - 1) + cu L k0<=cu L m
 | 0,A,K,k,m,hx,h1,hs,h=>by simp [lsL] at h;obtain ⟨rfl,rfl⟩:=h;exact ⟨hx,h1,hs⟩
 | f + 1,A,K,k,m,hx,h1,hs,h=>by
  unfold lsL at h;split at h
  ·
   rename_i hc
   cases hq:nx k with
   | error e=>simp [hq] at h
   | ok p =>
    obtain ⟨x,n1⟩:=p;simp only [hq] at h;obtain ⟨g1,g2⟩:=hn k x n1 hc hq;refine B0w hn f _ K n1 m (fun y hy=>?_) (by simp) (fun n=>?_) h
    ·
     rw [List.mem_append,List.mem_singleton] at hy;rcases hy with hy | rfl
     · exact hx y hy
     · exact g1
    · have e1:=hs n;have e2:=g2 n;obtain ⟨a,ha⟩:∃ a,A.length=a + 1:=⟨A.length - 1,by omega⟩;have e3:Rm o n (A ++ [x])=Rm o n A + ((kdX (prX n) o x).length + 1):=(by unfold Rm;simp);rw [e3,List.length_append,ha,List.length_cons,List.length_nil];rw [ha,Nat.add_sub_cancel] at e1;rw [show a + 1 + (0 + 1) - 1=a + 1 by omega,Nat.mul_succ];omega
  · simp at h;obtain ⟨rfl,rfl⟩:=h;exact ⟨hx,h1,hs⟩
theorem A2U (s:List UInt8):∀ (r:List (List UInt8)),(Lib.joinTail s r).length=(r.map (fun y=>y.length + s.length)).sum
 | []=>rfl
 | y :: r=>by have ih:=A2U s r;unfold Lib.joinTail at ih ⊢;simp only [List.map_cons,List.flatten_cons,List.length_append,List.sum_cons,ih];omega
theorem A6K {o:Int} (ho:o=4\/o=5) (n:Nat) (y:Ex) (K:List Ex):(prX (n + 1) (.mk o ⟨#[]⟩ 0 0 0 0 (y :: K))).length + 1=Rm o n (y :: K) + ((mP o).length - 1) * K.length:=by
 rw [DD n o y K ho,List.length_append,A2U];have h1:1<=(mP o).length:=by rcases ho with rfl | rfl <;> decide
 have key:∀ (K:List Ex),((K.map (kdX (prX n) o)).map (fun y=>y.length + (mP o).length)).sum=Rm o n K + ((mP o).length - 1) * K.length:=fun K=>by
  induction K with
  | nil=>rfl
  | cons z K ih =>
   unfold Rm at ih ⊢;simp only [List.map_cons,List.sum_cons,List.length_cons,ih,Nat.mul_succ];omega
 rw [key];unfold Rm;simp only [List.map_cons,List.sum_cons];omega
theorem B0z {o:Int} {e k0 n0:Nat} {c:Nat->Bool} {nx:Nat->Rs} {r:Rs} (ho:o=4\/o=5) (he:(mP o).length<=e + 1) (hn:∀ j x m,c j=true->nx j=.ok (x,m)->Bdc L (fQ o + 1) x (j + (if o=5 then 1 else 0)) m) (hce:∀ j,c j=true->cu L j + e<=cu L (j + (if o=5 then 1 else 0))) (hr:Rbc L (fQ o + 1) r k0) :
  Rbc L (fQ o) (Ox o (lsO c n0 nx r)) k0:=by
 cases r with
 | error er=>exact Rbc.err er
 | ok p =>
  obtain ⟨x,m⟩:=p;have h0:=hr x m rfl;show Rbc L (fQ o) (Ox o (lsL c nx n0 [x] m)) k0
  cases hl:lsL c nx n0 [x] m with
  | error er=>exact Rbc.err er
  | ok p =>
   obtain ⟨K,m2⟩:=p
   obtain ⟨g1,g2,g3⟩:=B0w (L:=L) (o:=o) (e:=e) (k0:=k0) (fun j y m' hc hq=>by
     have h1:=hn j y m' hc hq;have h2:=hce j hc;refine ⟨h1.1,fun n=>?_⟩;have h3:=h1.2 n;have h4:=A3Q (n:=n) (o:=o) (y:=y)
     omega) n0 [x] K m m2 (fun y hy=>by rw [List.mem_singleton.1 hy];exact h0.1) (by simp) (fun n=>by
     have h3:=h0.2 n;have h4:=A3Q (n:=n) (o:=o) (y:=x);unfold Rm;simp only [List.map_cons,List.map_nil,List.sum_cons,List.sum_nil,List.length_cons,List.length_nil];rw [show 0 + 1 - 1=0 from rfl,Nat.mul_zero]
     omega) hl
   refine Rbc.ok ?_;by_cases e1:K.length=1
   · obtain ⟨y,rfl⟩:=List.length_eq_one_iff.1 e1;refine ⟨g1 y (List.mem_singleton.2 rfl),fun n=>?_⟩;have h5:=g3 n;have h6:=B7K (n:=n) (o:=o) (y:=y);unfold Rm at h5;simp only [List.map_cons,List.map_nil,List.sum_cons,List.sum_nil,List.length_cons,List.length_nil] at h5;show (prX n y).length + (if fQ y.op < fQ o then 2 else 0) + 1 + _<=_;omega
   ·
    rw [uM e1]
    match K,g1,g2,g3,e1 with
    | y :: z :: K,g1,_,g3,_ =>
     refine ⟨OkX.list ?_ g1,fun n=>?_⟩
     ·
      show (dZ o ⟨#[]⟩ && dJ o (K.length + 2) && !((o == 2) == zB 0 0 0 0))=true;rcases ho with rfl | rfl
      · rw [tN (by decide),show dJ 4 (K.length + 2)=true by unfold dJ;rw [if_neg (by decide),if_pos (by decide)];exact aT (by omega)];rfl
      · rw [tN (by decide),show dJ 5 (K.length + 2)=true by unfold dJ;rw [if_neg (by decide),if_pos (by decide)];exact aT (by omega)];rfl
     ·
      show _ + (if fQ o < fQ o then 2 else 0) + 1 + _<=_;rw [if_neg (by omega)];have h3:=g3 (n - 1)
      cases n with
      | zero=>have:=g3 0;unfold Rm at this;simp only [List.map_cons,List.sum_cons] at this;show 0 + 0 + 1 + _<=_;omega
      | succ n =>
       have h4:=A6K ho n y (z :: K);have h5:=g3 n;have h6:((mP o).length - 1) * (z :: K).length<=e * ((y :: z :: K).length - 1):=(by rw [List.length_cons (a:=y),Nat.add_sub_cancel];exact Nat.mul_le_mul_right _ (by omega));omega
theorem B7o (hL:∀ t ∈ L,OkT t):∀ d k,Rbc L 0 (exO L d k) k:=by
 have step:∀ (X:Nat->Rs) (b:Bool) (k:Nat),(∀ j,Rbc L 0 (X j) j)->Rbc L 0 (chO L (lC L (preO L X b)) k) k:=fun X b k hX=>by
  have hp:=B5x (big:=b) hL hX;have hs:∀ j,Rbc L 1 (lC L (preO L X b) j) j:=fun j=>by rw [Ie];exact B0z (o:=4) (e:=0) (by decide) (by decide) (fun i x m _ hq=>hp i x m hq) (fun i _=>Nat.le_refl _) (hp j)
  rw [Px];refine B0z (o:=5) (e:=3) (by decide) (by decide) (fun i x m _ hq=>hs (i + 1) x m hq) (fun i hc=>?_) (hs k);have:=Ee hc;rw [if_pos rfl,this];simp only [List.length_cons,List.length_nil];omega
 intro d
 induction d with
 | zero=>exact fun k=>step _ _ k fun j=>Rbc.err _
 | succ d ih=>exact fun k=>step _ _ k ih
end
theorem B6p {s:ByteArray} {p m:Nat} {t:Tok} (hp:p < s.size) (h:tkO s p=some (t,m)):OkT t/\cost t + 9 * p<=9 * m:=by
 unfold tkO at h;split at h
 ·
  rename_i hl;split at h
  · rename_i h12;obtain ⟨rfl,rfl⟩:(⟨1,s.extract p (p + nmO s p),set0,p⟩:Tok)=t/\p + nmO s p=m:=(by simpa using h);refine ⟨⟨fun g=>absurd g (by decide:(1:Nat) ≠ 2),fun g=>absurd g (by decide:(1:Nat) ≠ 3)⟩,?_⟩;have hn:1<=nmO s p:=(by unfold nmO;obtain ⟨f,hf⟩:∃ f,s.size=f + 1:=⟨s.size - 1,by omega⟩;rw [hf];unfold runB;rw [if_pos ⟨hp,by unfold vY;rw [hl];rfl⟩];omega);have hs:(s.extract p (p + nmO s p)).size<=nmO s p:=(by rw [ByteArray.size_extract];omega);show (s.extract p (p + nmO s p)).size + 2 + 9 * p<=_;omega
  · cases h
 split at h
 ·
  cases hq:txtO s (p:Int) with
  | none=>rw [hq] at h;cases h
  | some q =>
   obtain ⟨u,n⟩:=q;rw [hq] at h;obtain ⟨rfl,rfl⟩:(⟨2,u,set0,p⟩:Tok)=t/\n=m:=(by simpa [B6v] using h);have h1:=MU hq;have h2:=B3g hq;have h3:=TS u;refine ⟨⟨fun _=>⟨h1.2.2.2.1,h1.2.2.2.2⟩,fun g=>absurd g (by decide:(2:Nat) ≠ 3)⟩,?_⟩;show (gU u).data.toList.length + 2 + 9 * p<=_;omega
 split at h
 ·
  cases hq:clsO s (p:Int) with
  | none=>rw [hq] at h;cases h
  | some q =>
   obtain ⟨x,n⟩:=q;rw [hq] at h;obtain ⟨rfl,rfl⟩:(⟨3,⟨#[]⟩,x,p⟩:Tok)=t/\n=m:=(by simpa [B4Q] using h);have h1:=Eb hq;have h2:=A9c hq;refine ⟨⟨fun g=>absurd g (by decide:(3:Nat) ≠ 2),fun _=>⟨h1.2.2.2.1,h1.2.2.2.2⟩⟩,?_⟩;show (dF (inS x)).data.toList.length + 2 + 9 * p<=_;omega
 split at h
 · cases h
 ·
  rename_i hg;obtain ⟨rfl,rfl⟩:(⟨4,s.extract p (p + sgO s p),set0,p⟩:Tok)=t/\p + sgO s p=m:=by simpa using h
  refine ⟨⟨fun g=>absurd g (by decide:(4:Nat) ≠ 2),fun g=>absurd g (by decide:(4:Nat) ≠ 3)⟩,?_⟩;have hs:(s.extract p (p + sgO s p)).size<=sgO s p:=by rw [ByteArray.size_extract];omega
  show (s.extract p (p + sgO s p)).size + 2 + 9 * p<=_;omega
def costs (L:List Tok):Nat:=(L.map cost).sum
theorem A4k {s:ByteArray}:∀ f k,k<=skF s f k
 | 0,k=>Nat.le_refl _
 | f + 1,k=>by
  unfold skF;split
  ·
   split
   · have:=A4k (s:=s) f (k + 1);omega
   ·
    split
    · have:=A4k (s:=s) f (k + ntO s k);omega
    · exact Nat.le_refl _
  · exact Nat.le_refl _
theorem EH {s:ByteArray}:∀ (f k:Nat) (L:List Tok),k<=s.size->allF s f k=.ok L->(∀ t ∈ L,OkT t)/\costs L + 9 * k<=9 * s.size + 2
 | 0,k,L,hk,h=>by cases h
 | f + 1,k,L,hk,h=>by
  rw [allF.eq_2] at h
  cases hn:nextO s k with
  | none=>rw [hn] at h;cases h
  | some p =>
   obtain ⟨t,m⟩:=p;rw [hn] at h;simp only at h;have hb:=lV hn;split at h
   ·
    rename_i h0;obtain rfl:[t]=L:=(by simpa using h);have ht:=(hb.2.2 h0).2;subst ht;refine ⟨fun u hu=>?_,?_⟩
    · rw [List.mem_singleton.1 hu];exact ⟨fun g=>absurd g (by decide:(0:Nat) ≠ 2),fun g=>absurd g (by decide:(0:Nat) ≠ 3)⟩
    · show 0 + 2 + 0 + 9 * k<=_;omega
   ·
    rename_i h0;have h1:=hb.2.1 h0;have hlt:skO s k < s.size:=(by omega);have ht:tkO s (skO s k)=some (t,m):=(by unfold nextO at hn;rw [if_neg (by omega)] at hn;exact hn);have h2:=B6p hlt ht;have h3:k<=skO s k:=A4k _ _
    cases hr:allF s f m with
    | error e=>rw [hr] at h;cases h
    | ok M =>
     rw [hr] at h;obtain rfl:t :: M=L:=(by simpa using h);obtain ⟨g1,g2⟩:=EH f m M hb.1 hr;refine ⟨fun u hu=>?_,?_⟩
     ·
      rcases List.mem_cons.1 hu with rfl | hu
      · exact h2.1
      · exact g1 u hu
     · have e:costs (t :: M)=cost t + costs M:=(by unfold costs;simp);rw [e];omega
theorem OkX.own {x:Ex} (h:OkX x):uB x=true:=by have h1:=h 1;unfold wfs at h1;rw [Bool.and_eq_true] at h1;exact h1.1
theorem OkX.kid {x y:Ex} (h:OkX x) (hy:y ∈ x.kids):OkX y:=fun m=>by have h2:=h (m + 1);unfold wfs at h2;rw [Bool.and_eq_true] at h2;exact List.all_eq_true.1 h2.2 y hy
theorem A7z {x:Ex} (h:uB x=true):x.text.size<=60:=by
 rcases uN h with ⟨t,rfl,-,t2⟩ | ⟨a,b,c,d,rfl,-⟩ | rfl | ⟨t,rfl,ht⟩ | ⟨o,y,z,K,ho,rfl⟩ | ⟨o,y,ho,rfl⟩ | ⟨t,y,rfl,ht⟩
 · show t.size<=60;omega
 · exact Nat.zero_le _
 · exact Nat.zero_le _
 ·
  show t.size<=60;unfold splitB at ht;split at ht
  · rename_i g;rw [Bool.and_eq_true] at ht;have h1:=(nA ht.1).1;have h2:=(nA ht.2).1;have h3:=FJ g;have h4:=congrArg List.length h3;rw [fJ,List.length_append,List.length_cons,List.length_cons] at h4;have e1:(ofL (iH t).1).size=(iH t).1.length:=(by rw [<- fJ,gM]);have e2:(ofL (iH t).2.1).size=(iH t).2.1.length:=(by rw [<- fJ,gM]);omega
  · have:=(nA ht).1;omega
 · exact Nat.zero_le _
 · exact Nat.zero_le _
 · have:=(nA ht).1;show t.size<=60;omega
theorem GD {M:Nat}:∀ (n:Nat) (x:Ex),fit M n x=true->B7s n x
 | 0,x,h=>by cases h
 | n + 1,x,h=>fun y hy=>by obtain ⟨k,hk,e⟩:=List.getElem_of_mem hy;exact GD n y (rQ h (k:=k) (by rw [aG hk,e]))
theorem Ef {M:Nat}:∀ (n m:Nat) (x:Ex),fit M n x=true->n<=m->bJ m x=bJ n x
 | 0,m,x,h,_=>by cases h
 | n + 1,0,x,h,hm=>by omega
 | n + 1,m + 1,x,h,hm=>by
  have key:∀ (K:List Ex) (a:Int),(∀ y ∈ K,bJ m y=bJ n y)->K.foldl (fun q y=>max q (bJ m y)) a=K.foldl (fun q y=>max q (bJ n y)) a:=fun K=>by
   induction K with
   | nil=>intro a _;rfl
   | cons z K ih =>
    intro a g;rw [List.foldl_cons,List.foldl_cons,g z (List.mem_cons_self ..)];exact ih _ fun y hy=>g y (List.mem_cons_of_mem _ hy)
  show x.kids.foldl (fun q y=>max q (bJ m y)) 0 + 1=x.kids.foldl (fun q y=>max q (bJ n y)) 0 + 1
  rw [key x.kids 0 fun y hy=>by
   obtain ⟨k,hk,e⟩:=List.getElem_of_mem hy
   exact Ef n m y (rQ h (k:=k) (by rw [aG hk,e])) (by omega)]
def cN (b:Nat):Nat:=if 32<=b/\b<=126 then 2 else 4
theorem wr_cN:∀ b:Fin 256,(wrS spC (b.val:Int)).data.toList.length<=cN b.val:=by decide +kernel
theorem wr_cN' {b:Nat} (h:b < 256):(wrS spC (b:Int)).data.toList.length<=cN b:=wr_cN ⟨b,h⟩
def Pw (n:Nat):Nat:=8 * n + 4 * min n 33 - 4 * min n 127
theorem row_w {lo hi:Nat} (h:lo<=hi) (hh:hi < 256):3 * (dY lo hi).length + Pw lo<=Pw (hi + 2):=by
 have h1:=wr_cN' (b:=lo) (by omega);have h2:=wr_cN' (b:=hi) hh;unfold dY;rw [List.length_append,List.length_append];unfold cN at h1 h2;unfold Pw;by_cases a:lo + 1 < hi
 · rw [if_pos a,if_pos (show lo < hi by omega),List.length_singleton];split at h1 <;> split at h2 <;> omega
 ·
  rw [if_neg a];by_cases b:lo < hi
  · rw [if_pos b,List.length_nil];split at h1 <;> split at h2 <;> omega
  · rw [if_neg b,List.length_nil];split at h1 <;> omega
theorem Pw_mono {a b:Nat} (h:a<=b):Pw a<=Pw b:=by unfold Pw;omega
theorem clsF_w (h:Nat->Bool):∀ (F f low:Nat),f<=F->low<=257->3 * (oK h f low).length + Pw low<=Pw 257
 | 0,f,low,hf,hl=>by
  obtain rfl:f=0:=by omega
  have:=Pw_mono hl;rw [show oK h 0 low=[] from rfl,List.length_nil];omega
 | F + 1,f,low,hf,hl=>by
  have hm:=Pw_mono hl
  cases f with
  | zero=>rw [show oK h 0 low=[] from rfl,List.length_nil];omega
  | succ f =>
   by_cases h2:low < 256
   ·
    cases h3:h low
    · rw [Aq h2 h3];have:=clsF_w h F f (low + 1) (by omega) (by omega);have:=Pw_mono (show low<=low + 1 by omega);omega
    ·
     rw [Ls h2 h3,List.length_append];have hge:=Kq h 255 low;have hle:=Fv h 255 low (by omega);have hr:=row_w hge (show jL h 255 low < 256 by omega);have hx:=TJ h 255 low (by omega) (by omega);generalize jL h 255 low=e at *;by_cases he:e < 255
     ·
      cases f with
      | zero =>
       have:=Pw_mono (show e + 2<=257 by omega);rw [show oK h 0 (e + 1)=[] from rfl,List.length_nil];omega
      | succ f =>
       rw [Aq (by omega) (hx he)];have:=clsF_w h F f (e + 1 + 1) (by omega) (by omega);rw [show e + 1 + 1=e + 2 from rfl] at this ⊢;omega
     · rw [Ea h f (by omega),List.length_nil];obtain rfl:e=255:=(by omega);omega
   · rw [Ea h (f + 1) h2,List.length_nil];omega
theorem cls_562 (h:Nat->Bool):(dF h).data.toList.length<=562:=by
 have h1:=clsF_w h 257 257 0 (Nat.le_refl _) (by omega);have h2:Pw 257=1680:=by decide
 have h3:Pw 0=0:=by decide
 rw [Jd,List.length_cons,List.length_append,List.length_singleton];omega
theorem grt_fit8:∀ (n:Nat) (x:Ex),grt n x=false->fit 8 n x=true
 | 0,x,h=>by cases h
 | n + 1,x,h=>by
  have hl:=lY h;unfold fit;rw [Bool.and_eq_true,decide_eq_true_eq,List.all_eq_true]
  exact ⟨by omega,fun y hy=>by
   obtain ⟨k,hk⟩:=List.getElem?_of_mem hy
   exact grt_fit8 n y (mI h hk)⟩
theorem fit_up8 {M:Nat}:∀ (n:Nat) (x:Ex),fit M n x=true->fit M (n + 1) x=true
 | 0,x,h=>by cases h
 | n + 1,x,h=>by unfold fit at h ⊢;rw [Bool.and_eq_true,List.all_eq_true] at h ⊢;exact ⟨h.1,fun y hy=>fit_up8 n y (h.2 y hy)⟩
theorem fit8_53 {x:Ex} (h:grt 17 x=false):fit 8 53 x=true:=by
 have q:∀ k,fit 8 (17 + k) x=true:=fun k=>by
  induction k with
  | zero=>exact grt_fit8 17 x h
  | succ k ih=>exact fit_up8 _ _ ih
 exact q 36
theorem lens_8 {f:Ex->List UInt8} {z:Nat} (op:Int):∀ (l:List Ex),(∀ y ∈ l,(f y).length + 6<=z)->Lib.lens (l.map (kdX f op)) + 4 * l.length<=z * l.length
 | [],_=>by simp [Lib.lens]
 | y :: l,h=>by have h1:=lens_8 op l (fun z hz=>h z (List.mem_cons_of_mem _ hz));have h2:=h y (List.mem_cons_self ..);have h3:=A1E (decide (fQ y.op<=fQ op)) (f y);simp only [Lib.lens,List.map_cons,List.sum_cons,List.length_cons,kdX] at h1 ⊢;rw [Nat.mul_succ z];omega
theorem row_8 {f:Ex->List UInt8} {z:Nat} (hz:568<=z) (x:Ex) (h8:x.kids.length<=8) (h:∀ y ∈ x.kids,(f y).length + 6<=z):(pW f x).length + 6<=8 * z/\(x.kids.length=1->(pW f x).length + 4<=z):=by
 have h1:=lens_8 (f:=f) (z:=z) x.op x.kids h;have h2:=A2F x.op;unfold pW
 cases hk:x.kids with
 | nil=>rw [List.map_nil,Lib.join_nil];exact ⟨by show 0 + 6<=_;omega,fun e=>by simp at e⟩
 | cons y l =>
  rw [hk] at h1 h8;rw [List.map_cons,Lib.join_length];rw [List.map_cons] at h1;have h3:(mP x.op).length * (l.map (kdX f x.op)).length<=3 * l.length:=by rw [List.length_map];exact Nat.mul_le_mul_right _ h2
  rw [List.length_cons] at h1 h8;refine ⟨?_,fun e=>?_⟩
  ·
   by_cases e:l.length=7
   · rw [e] at h1 h3;generalize (mP x.op).length * (l.map (kdX f x.op)).length=q at *;omega
   · have h4:z * (l.length + 1)<=z * 7:=Nat.mul_le_mul_left _ (by omega);have h5:=Nat.le_trans h1 h4;clear h1 h4;generalize (mP x.op).length * (l.map (kdX f x.op)).length=q2 at *;omega
  · have e0:l.length=0:=(by simpa using e);rw [e0] at h1 h3;generalize (mP x.op).length * (l.map (kdX f x.op)).length=q2 at *;omega
theorem text_8 {t:ByteArray} (h:t.size<=60):(gU t).data.toList.length<=242:=by have:=TS t;omega
theorem deep_8 {n d:Nat} {x y:Ex} (h:bJ (n + 1) x<=(d:Int) + 1) (hy:y ∈ x.kids):bJ n y<=(d:Int):=by have:=ZI (n:=n) hy;omega
theorem pr_8:∀ (n:Nat) (x:Ex) (d:Nat),gQ n x=true->fit 8 n x=true->bJ n x<=(d:Int) + 1->d<=11->(prX n x).length + 6<=568 * 8 ^ d/\Rmx n x
 | 0,x,d,h,_,_,_=>by cases h
 | n + 1,x,d,h,hf,hd,h11=>by
  rw [jN,Bool.and_eq_true,List.all_eq_true] at h;obtain ⟨ho,hK⟩:=h;have hfk:∀ y ∈ x.kids,fit 8 n y=true:=fun y hy=>by obtain ⟨k,hk⟩:=List.getElem?_of_mem hy;exact rQ hf hk
  have hl:=Db hf;have hp:1<=8 ^ d:=Nat.one_le_pow _ _ (by decide);have key:∃ z,568<=z/\(x.kids ≠ []->8 * z<=568 * 8 ^ d)/\568 * 8 ^ d<=568 * 8 ^ 11/\∀ y ∈ x.kids,(prX n y).length + 6<=z/\Rmx n y:=by
   cases d with
   | zero =>
    have hnil:x.kids=[]:=by
     cases hk:x.kids with
     | nil=>rfl
     | cons y l =>
      have hy:y ∈ x.kids:=(by rw [hk];exact List.mem_cons_self ..);have h1:=deep_8 (d:=0) hd hy;have h2:=A9j (hK y hy);omega
    refine ⟨568,Nat.le_refl _,fun e=>absurd hnil e,by decide,fun y hy=>?_⟩;rw [hnil] at hy;exact absurd hy List.not_mem_nil
   | succ d =>
    refine ⟨568 * 8 ^ d,by have:=Nat.one_le_pow d 8 (by decide);omega,fun _=>by rw [Nat.pow_succ];omega,Nat.mul_le_mul_left _ (Nat.pow_le_pow_right (by decide) h11),fun y hy=>?_⟩;exact pr_8 n y d (hK y hy) (hfk y hy) (by have:=deep_8 (d:=d + 1) hd hy;omega) (by omega)
  obtain ⟨z,hz,hz8,hm,hk⟩:=key;have hc:(568:Nat) * 8 ^ 11<=70368744177664:=by decide
  have hr:=row_8 (f:=prX n) hz x hl fun y hy=>(hk y hy).1;generalize 568 * 8 ^ 11=Q at *;have h1p:568<=568 * 8 ^ d:=by omega
  generalize 568 * 8 ^ d=q at *;have hroom:x.kids ≠ []->Rmx (n + 1) x:=fun e=>by have h8:=hz8 e;refine ⟨by omega,fun k y hy=>?_⟩;have:=hk y (aM hy);exact ⟨by omega,this.2⟩
  have hleaf:x.kids=[]->Rmx (n + 1) x:=fun e=>by refine ⟨?_,fun k y hy=>by rw [e] at hy;simp at hy⟩;unfold pW;rw [e,List.map_nil,Lib.join_nil];exact Nat.zero_le _
  rcases uN ho with ⟨t,rfl,-,t2⟩ | ⟨a,b,c,e,rfl,-⟩ | rfl | ⟨t,rfl,ht⟩ | ⟨o,y,y2,K,hq,rfl⟩ | ⟨o,y,hq,rfl⟩ | ⟨t,y,rfl,ht⟩
  · refine ⟨?_,hleaf rfl⟩;have:=text_8 (t:=t) (by omega);show (gU t).data.toList.length + 6<=q;omega
  · refine ⟨?_,hleaf rfl⟩;have:=cls_562 (inX (.mk 2 ⟨#[]⟩ a b c e []));show (dF (inX (.mk 2 ⟨#[]⟩ a b c e []))).data.toList.length + 6<=q;omega
  · exact ⟨by show 1 + 6<=q;omega,hleaf rfl⟩
  · refine ⟨?_,hleaf rfl⟩;have h1:=A7z ‹_›;have h2:t.size<=60:=h1;show t.data.toList.length + 6<=q;rw [fJ];omega
  · refine ⟨?_,hroom (by simp [Ex.kids])⟩;have h8:=hz8 (by simp [Ex.kids]);have e:prX (n + 1) (.mk o ⟨#[]⟩ 0 0 0 0 (y :: y2 :: K))=pW (prX n) (.mk o ⟨#[]⟩ 0 0 0 0 (y :: y2 :: K)):=(by rcases hq with rfl | rfl <;> simp [prX,Ex.op]);rw [e];omega
  · refine ⟨?_,hroom (by simp [Ex.kids])⟩;have h8:=hz8 (by simp [Ex.kids]);have h1:=hr.2 rfl;rw [show pW (prX n) (.mk o ⟨#[]⟩ 0 0 0 0 [y])=kdX (prX n) o y from Lib.join_one _ _] at h1;rw [zP n o _ y (by omega),List.length_append,List.length_append];have hb:(beW o ⟨#[]⟩).length<=2:=(by rcases hq with rfl | rfl | rfl | rfl | rfl | rfl <;> decide);have ha:(afW o).length<=2:=(by rcases hq with rfl | rfl | rfl | rfl | rfl | rfl <;> decide);omega
  · refine ⟨?_,hroom (by simp [Ex.kids])⟩;have h8:=hz8 (by simp [Ex.kids]);have h1:=hr.2 rfl;rw [show pW (prX n) (.mk 12 t 0 0 0 0 [y])=kdX (prX n) 12 y from Lib.join_one _ _] at h1;rw [zP n 12 t y (by omega),List.length_append,List.length_append];have hw:=Ot ht;have hb:(beW 12 t).length<=13:=(by show (t.data.toList ++ [58]).length<=13;rw [List.length_append,fJ,List.length_singleton];omega);have ha:(afW 12).length<=2:=(by decide);omega
end Go.Proofs.YthkdnehgamefiaaGreat
