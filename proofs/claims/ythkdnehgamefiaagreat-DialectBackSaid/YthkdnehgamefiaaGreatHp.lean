import Derived.Test.YthkdnehgamefiaaGreatHn
namespace Go.Proofs.YthkdnehgamefiaaGreat
set_option linter.unusedVariables false
set_option maxRecDepth 1000000
open Go.RowKit Go.Sort
structure Md where
 nm:ByteArray
 im:List ByteArray
 wet:Bool
 wa:Ex
 ru:List (ByteArray × Ex)
abbrev Ft2:=Int × Int
def gH (L:List Tok) (c:Int) (k:Nat):Ft2:=(c,((tkA L k).pos:Int))
def wdB (L:List Tok) (k kd:Nat) (s:List UInt8):Bool:=(tkA L k).kd == kd && (tkA L k).tx.data.toList == s
def oO (L:List Tok) (s:List UInt8) (k:Nat):Except Ft2 Nat:=if wdB L k 4 s=true then .ok (k + 1) else .error (gH L 2 k)
def hasB (l:List ByteArray) (s:ByteArray):Bool:=l.any (fun x=>x.toList == s.toList)
def pV (L:List Tok) (no:List ByteArray) (k:Nat):Except Ft2 (ByteArray × Nat) :=
 if ((tkA L k).kd == 1 && bN (tkA L k).tx)=true then
  (if hasB no (tkA L k).tx=true then .error (gH L 4 k) else .ok ((tkA L k).tx,k + 1))
 else .error (gH L 2 k)
def uW (L:List Tok) (k:Nat):Rs:=match oO L [61] k with
 | .error e=>.error e
 | .ok k1=>match rdO L k1 with
  | .error e=>.error e
  | .ok (x,m)=>match oO L [59] m with
   | .error e=>.error e
   | .ok m'=>.ok (x,m')
def yD (L:List Tok) (nm:ByteArray):Nat->List ByteArray->Nat->Except Ft2 (List ByteArray × Nat)
 | 0,im,k=>.ok (im,k)
 | f + 1,im,k=>if wdB L k 1 [105,109,112,111,114,116]=true then
   (if im.length=4 then .error (gH L 3 k) else match pV L (nm :: im) (k + 1) with
    | .error e=>.error e
    | .ok (x,k1)=>match oO L [59] k1 with
     | .error e=>.error e
     | .ok k2=>yD L nm f (im ++ [x]) k2)
  else .ok (im,k)
def md0:Md:=⟨⟨#[]⟩,[],false,ex0,[]⟩
def BG (L:List Tok) (nm:ByteArray) (im:List ByteArray) (k:Nat):Except Ft2 (Md × Nat) :=
 if wdB L k 1 [119,97,116,101,114]=true then (match uW L (k + 1) with
  | .error e=>.error e
  | .ok (x,m)=>.ok (⟨nm,im,true,x,[]⟩,m))
 else .ok (⟨nm,im,false,ex0,[]⟩,k)
def Oz (L:List Tok):Except Ft2 (Md × Nat) :=
 if wdB L 0 1 [109,111,100,117,108,101]=true then match pV L [] 1 with
  | .error e=>.error e
  | .ok (nm,k)=>match oO L [59] k with
   | .error e=>.error e
   | .ok k1=>match yD L nm (L.length + 1) [] k1 with
    | .error e=>.error e
    | .ok (im,k2)=>BG L nm im k2
 else .error (gH L 2 0)
def uE (L:List Tok):Nat->List (ByteArray × Ex)->Nat->Except Ft2 (List (ByteArray × Ex))
 | 0,R,k=>.ok R
 | f + 1,R,k=>if (tkA L k).kd=0 then .ok R else match pV L (R.map (·.1)) k with
  | .error e=>.error e
  | .ok (nm,k1)=>if R.length=24 then .error (gH L 3 k) else match uW L k1 with
   | .error e=>.error e
   | .ok (x,k2)=>uE L f (R ++ [(nm,x)]) k2
def B1a (L:List Tok):Except Ft2 Md:=match Oz L with
 | .error e=>.error e
 | .ok (m,k)=>match uE L (L.length + 1) [] k with
  | .error e=>.error e
  | .ok R=>.ok { m with ru:=R }
def yU (s:ByteArray):Except Ft2 Md:=match kS s with
 | .error k=>.error (2,(k:Int))
 | .ok L=>B1a L
def Pd (w:World) (g:Nat) (lo:Option Addr) (lc:Nat) (L:List Tok) (k:Nat) (F:Option Ft2):Prop :=
 Own w g 97 [.slice lo L.length lc,.int .i64 (k:Int),.int .i64 (fE F),.int .i64 (fA F),.int .i64 0,.int .i64 0]/\sO w lo L/\(∀ a,lo=some a->a.block ≠ g)/\(∀ f,F=some f->f.1 ≠ 0)
theorem Pd.below {w w':World} {g:Nat} {lo:Option Addr} {lc:Nat} {L:List Tok} {k:Nat} {F:Option Ft2} (h:Pd w g lo lc L k F) (hb:Below w.heap.size w w'):Pd w' g lo lc L k F :=
 ⟨h.1.under hb h.1.lt,h.2.1.below hb,h.2.2⟩
theorem sO.buts {S:Nat->Prop} {w w':World} {ao:Option Addr} {L:List Tok} (h:sO w ao L) (hg:∀ a,ao=some a->¬ S a.block) (hb:But S w w'):sO w' ao L:=fun k t hk=>by obtain ⟨b,off,e,hlt,h0,h1,h2,h3,h4,h5,h6⟩:=h k t hk;have hne:¬ S b:=hg _ e;exact ⟨b,off,e,aL hlt hb.size,hb.cell hne h0,hb.cell hne h1,hb.cell hne h2,hb.cell hne h3,hb.cell hne h4,hb.cell hne h5,hb.cell hne h6⟩
theorem Pd.but {S:Nat->Prop} {w w':World} {g:Nat} {lo:Option Addr} {lc:Nat} {L:List Tok} {k:Nat} {F:Option Ft2} (h:Pd w g lo lc L k F) (hb:But S w w') (hg:¬ S g) (hl:∀ a,lo=some a->¬ S a.block):Pd w' g lo lc L k F :=
 ⟨h.1.but hb hg,h.2.1.buts hl hb,h.2.2⟩
theorem Pd.fault {w:World} {g k:Nat} {lo:Option Addr} {lc:Nat} {L:List Tok} (h:Pd w g lo lc L k none) (f:Ft2) (hf:f.1 ≠ 0) :
  Pd ((((w.setCell ⟨g,2,none⟩ (.int .i64 f.1)).setCell ⟨g,3,none⟩ (.int .i64 f.2)).setCell ⟨g,4,none⟩ (.int .i64 0)).setCell ⟨g,5,none⟩ (.int .i64 0)) g lo lc L k (some f):=by
 refine ⟨(((h.1.put 2 _).put 3 _).put 4 _).put 5 _,h.2.1.but h.2.2.1 ?_,h.2.2.1,fun f' e=>by cases e;exact hf⟩;exact ((((But.refl (fun j=>j=g) w).setCell (p:=⟨g,2,none⟩) (fun _=>rfl) _).setCell (p:=⟨g,3,none⟩) (fun _=>rfl) _).setCell (p:=⟨g,4,none⟩) (fun _=>rfl) _).setCell (p:=⟨g,5,none⟩) (fun _=>rfl) _
def gI (w:World) (ao:Option Addr) (l:List ByteArray):Prop:=∀ k x,l[k]?=some x->∃ b off,ao=some ⟨b,off,none⟩/\b < w.heap.size/\w.cell? ⟨b,off + k,none⟩=some (.string x)
theorem gI.below {w w':World} {ao:Option Addr} {l:List ByteArray} (h:gI w ao l) (hb:Below w.heap.size w w'):gI w' ao l:=fun k x hx=>by obtain ⟨b,off,e,hlt,c⟩:=h k x hx;exact ⟨b,off,e,aL hlt hb.size,aC c hb⟩
theorem oM {S:Nat->Prop} {w:World} {ao:Option Addr} {n c:Nat} {l:List ByteArray} (h:Win S 9 1 w (.slice ao n c) n (l.map Value.string)):gI w ao l:=fun k x hx=>by
 have hk:k < l.length:=(aS.1 hx).1;have hn:l.length=n:=by have:=h.1;simpa using this
 obtain ⟨ao',cap,e1,h1,h2,hf⟩:=h.form;injection e1 with e1 e2 e3;subst e1;obtain ⟨g,off,e,hs,hg,hc,_⟩:=hf k (by omega);exact ⟨g,off,e,hg,by rw [hc,List.getElem?_map,hx];rfl⟩
theorem wT {s:ByteArray}:∀ (f k:Nat) (L:List Tok),allF s f k=.ok L->∃ L' t,L=L' ++ [t]/\t.kd=0
 | 0,k,L,h=>by cases h
 | f + 1,k,L,h=>by
  unfold allF at h;split at h
  · cases h
  ·
   rename_i t m _;split at h
   · injection h with h;rename_i h0;exact ⟨[],t,h.symm,h0⟩
   ·
    cases hq:allF s f m with
    | error e=>simp [hq] at h
    | ok M =>
     simp only [hq] at h;injection h with h;obtain ⟨L',u,e,h0⟩:=wT f m M hq;exact ⟨t :: L',u,by rw [<- h,e];rfl,h0⟩
theorem Oj {L':List Tok} {t:Tok} (h:t.kd=0):∀ k,(tkA (L' ++ [t]) k).kd ≠ 0->k < L'.length:=fun k hk=>by
 rcases Nat.lt_or_ge k L'.length with h1 | h1
 · exact h1
 ·
  exfalso;apply hk;by_cases e:k=L'.length
  · subst e;rw [jH (t:=t) (by simp)];exact h
  · rw [Ol (by simp;omega)];rfl
theorem TY {s:ByteArray}:∀ (f k:Nat) (out u:ByteArray) (m:Nat),txtF s f k out=some (u,m)->u.size<=40
 | 0,k,out,u,m,h=>by cases h
 | f + 1,k,out,u,m,h=>by
  unfold txtF at h;split at h
  ·
   split at h
   ·
    split at h
    · cases h
    · rename_i h2;injection h with h;injection h with h3 h4;subst h3;omega
   ·
    split at h
    · cases h
    · exact TY f _ _ u m h
  · cases h
theorem MM {s:ByteArray} {p m:Nat} {t:Tok} (h:tkO s p=some (t,m)):t.tx.size<=s.size + 40:=by
 unfold tkO at h;split at h
 ·
  split at h
  · injection h with h;injection h with h3 h4;subst h3;show (s.extract _ _).size<=_;rw [ByteArray.size_extract];omega
  · cases h
 split at h
 ·
  cases hq:txtO s (p:Int) with
  | none=>rw [hq] at h;cases h
  | some q =>
   obtain ⟨u,n⟩:=q;rw [hq] at h;injection h with h;injection h with h3 h4;subst h3;show u.size<=_;have hu:u.size<=40:=by
    unfold txtO at hq
    repeat' split at hq
    all_goals first | (cases hq;done) | exact TY _ _ _ _ _ hq
   omega
 split at h
 ·
  cases hq:clsO s (p:Int) with
  | none=>rw [hq] at h;cases h
  | some q =>
   obtain ⟨u,n⟩:=q;rw [hq] at h;injection h with h;injection h with h3 h4;subst h3;show (0:Nat)<=_;omega
 split at h
 · cases h
 · injection h with h;injection h with h3 h4;subst h3;show (s.extract _ _).size<=_;rw [ByteArray.size_extract];omega
theorem rH {s:ByteArray}:∀ (f k:Nat) (L:List Tok),k<=s.size->allF s f k=.ok L->∀ t ∈ L,t.tx.size<=s.size + 40
 | 0,k,L,hk,h=>by cases h
 | f + 1,k,L,hk,h=>by
  have one:∀ t m,nextO s k=some (t,m)->t.tx.size<=s.size + 40:=fun t m hq=>by
   unfold nextO at hq;split at hq
   · injection hq with hq;injection hq with h3 h4;subst h3;show (0:Nat)<=_;omega
   · exact MM hq
  unfold allF at h;split at h
  · cases h
  ·
   rename_i t m hq;have hb:=lV hq;split at h
   · injection h with h;intro u hu;rw [<- h,List.mem_singleton] at hu;subst hu;exact one u m hq
   ·
    cases hq2:allF s f m with
    | error e=>simp [hq2] at h
    | ok M =>
     simp only [hq2] at h;injection h with h;intro u hu;rw [<- h,List.mem_cons] at hu;rcases hu with rfl | hu
     · exact one u m hq
     · exact rH f m M hb.1 hq2 u hu
theorem oV {s:ByteArray}:∀ (f k:Nat) (L:List Tok),allF s f k=.ok L->L.length<=f
 | 0,k,L,h=>by cases h
 | f + 1,k,L,h=>by
  unfold allF at h;split at h
  · cases h
  ·
   rename_i t m _;split at h
   · injection h with h;rw [<- h];simp
   ·
    cases hq:allF s f m with
    | error e=>simp [hq] at h
    | ok M =>
     simp only [hq] at h;injection h with h;have:=oV f m M hq;rw [<- h];simp;omega
end Go.Proofs.YthkdnehgamefiaaGreat
