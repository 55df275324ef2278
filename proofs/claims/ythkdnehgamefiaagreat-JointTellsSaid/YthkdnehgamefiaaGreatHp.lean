import Derived.Test.YthkdnehgamefiaaGreatHn
namespace Go.Proofs.YthkdnehgamefiaaGreat
set_option linter.unusedVariables false
set_option maxHeartbeats 1600000
set_option maxRecDepth 1000000
open Go.RowKit Go.Sort
structure Md where
 nm:ByteArray
 im:List ByteArray
 wet:Bool
 wa:Ex
 ru:List (ByteArray × Ex)
abbrev Ft2:=Int × Int
def gH (L:List Tok) (c:Int) (k:Nat):Ft2:=(c,((tkA L k).pos:Int))
def wdB (L:List Tok) (k kd:Nat) (s:List UInt8):Bool:=(tkA L k).kd == kd && (tkA L k).tx.data.toList == s
def oO (L:List Tok) (s:List UInt8) (k:Nat):Except Ft2 Nat:=if wdB L k 4 s=true then .ok (k + 1) else .error (gH L 2 k)
def hasB (l:List ByteArray) (s:ByteArray):Bool:=l.any (fun x=>x.toList == s.toList)
def pV (L:List Tok) (no:List ByteArray) (k:Nat):Except Ft2 (ByteArray × Nat) :=
 if ((tkA L k).kd == 1 && bN (tkA L k).tx)=true then
  (if hasB no (tkA L k).tx=true then .error (gH L 4 k) else .ok ((tkA L k).tx,k + 1))
 else .error (gH L 2 k)
def uW (L:List Tok) (k:Nat):Rs:=match oO L [61] k with
 | .error e=>.error e
 | .ok k1=>match rdO L k1 with
  | .error e=>.error e
  | .ok (x,m)=>match oO L [59] m with
   | .error e=>.error e
   | .ok m'=>.ok (x,m')
def yD (L:List Tok) (nm:ByteArray):Nat->List ByteArray->Nat->Except Ft2 (List ByteArray × Nat)
 | 0,im,k=>.ok (im,k)
 | f + 1,im,k=>if wdB L k 1 [105,109,112,111,114,116]=true then
   (if im.length=4 then .error (gH L 3 k) else match pV L (nm :: im) (k + 1) with
    | .error e=>.error e
    | .ok (x,k1)=>match oO L [59] k1 with
     | .error e=>.error e
     | .ok k2=>yD L nm f (im ++ [x]) k2)
  else .ok (im,k)
def md0:Md:=⟨⟨#[]⟩,[],false,ex0,[]⟩
def BG (L:List Tok) (nm:ByteArray) (im:List ByteArray) (k:Nat):Except Ft2 (Md × Nat) :=
 if wdB L k 1 [119,97,116,101,114]=true then (match uW L (k + 1) with
  | .error e=>.error e
  | .ok (x,m)=>.ok (⟨nm,im,true,x,[]⟩,m))
 else .ok (⟨nm,im,false,ex0,[]⟩,k)
def Oz (L:List Tok):Except Ft2 (Md × Nat) :=
 if wdB L 0 1 [109,111,100,117,108,101]=true then match pV L [] 1 with
  | .error e=>.error e
  | .ok (nm,k)=>match oO L [59] k with
   | .error e=>.error e
   | .ok k1=>match yD L nm (L.length + 1) [] k1 with
    | .error e=>.error e
    | .ok (im,k2)=>BG L nm im k2
 else .error (gH L 2 0)
def uE (L:List Tok):Nat->List (ByteArray × Ex)->Nat->Except Ft2 (List (ByteArray × Ex))
 | 0,R,k=>.ok R
 | f + 1,R,k=>if (tkA L k).kd=0 then .ok R else match pV L (R.map (·.1)) k with
  | .error e=>.error e
  | .ok (nm,k1)=>if R.length=24 then .error (gH L 3 k) else match uW L k1 with
   | .error e=>.error e
   | .ok (x,k2)=>uE L f (R ++ [(nm,x)]) k2
def B1a (L:List Tok):Except Ft2 Md:=match Oz L with
 | .error e=>.error e
 | .ok (m,k)=>match uE L (L.length + 1) [] k with
  | .error e=>.error e
  | .ok R=>.ok { m with ru:=R }
def yU (s:ByteArray):Except Ft2 Md:=match kS s with
 | .error k=>.error (2,(k:Int))
 | .ok L=>B1a L
def Pd (w:World) (g:Nat) (lo:Option Addr) (lc:Nat) (L:List Tok) (k:Nat) (F:Option Ft2):Prop :=
 Own w g 97 [.slice lo L.length lc,.int .i64 (k:Int),.int .i64 (fE F),.int .i64 (fA F),.int .i64 0,.int .i64 0]/\sO w lo L/\(∀ a,lo=some a->a.block ≠ g)/\(∀ f,F=some f->f.1 ≠ 0)
theorem Pd.below {w w':World} {g:Nat} {lo:Option Addr} {lc:Nat} {L:List Tok} {k:Nat} {F:Option Ft2} (h:Pd w g lo lc L k F) (hb:Below w.heap.size w w'):Pd w' g lo lc L k F :=
 ⟨h.1.under hb h.1.lt,h.2.1.below hb,h.2.2⟩
theorem sO.buts {S:Nat->Prop} {w w':World} {ao:Option Addr} {L:List Tok} (h:sO w ao L) (hg:∀ a,ao=some a->¬ S a.block) (hb:But S w w'):sO w' ao L:=fun k t hk=>by obtain ⟨b,off,e,hlt,h0,h1,h2,h3,h4,h5,h6⟩:=h k t hk;have hne:¬ S b:=hg _ e;exact ⟨b,off,e,aL hlt hb.size,hb.cell hne h0,hb.cell hne h1,hb.cell hne h2,hb.cell hne h3,hb.cell hne h4,hb.cell hne h5,hb.cell hne h6⟩
theorem Pd.but {S:Nat->Prop} {w w':World} {g:Nat} {lo:Option Addr} {lc:Nat} {L:List Tok} {k:Nat} {F:Option Ft2} (h:Pd w g lo lc L k F) (hb:But S w w') (hg:¬ S g) (hl:∀ a,lo=some a->¬ S a.block):Pd w' g lo lc L k F :=
 ⟨h.1.but hb hg,h.2.1.buts hl hb,h.2.2⟩
theorem Pd.at1 {w:World} {g k:Nat} {lo:Option Addr} {lc:Nat} {L:List Tok} {F:Option Ft2} (h:Pd w g lo lc L k F) (m:Nat) (v:Value) (hv:v=.int .i64 (m:Int)):Pd (w.setCell ⟨g,1,none⟩ v) g lo lc L m F:=by subst hv;exact ⟨h.1.put 1 _,h.2.1.but h.2.2.1 (But.put _ _ _ _),h.2.2⟩
theorem Pd.fault {w:World} {g k:Nat} {lo:Option Addr} {lc:Nat} {L:List Tok} (h:Pd w g lo lc L k none) (f:Ft2) (hf:f.1 ≠ 0) :
  Pd ((((w.setCell ⟨g,2,none⟩ (.int .i64 f.1)).setCell ⟨g,3,none⟩ (.int .i64 f.2)).setCell ⟨g,4,none⟩ (.int .i64 0)).setCell ⟨g,5,none⟩ (.int .i64 0)) g lo lc L k (some f):=by
 refine ⟨(((h.1.put 2 _).put 3 _).put 4 _).put 5 _,h.2.1.but h.2.2.1 ?_,h.2.2.1,fun f' e=>by cases e;exact hf⟩;exact ((((But.refl (fun j=>j=g) w).setCell (p:=⟨g,2,none⟩) (fun _=>rfl) _).setCell (p:=⟨g,3,none⟩) (fun _=>rfl) _).setCell (p:=⟨g,4,none⟩) (fun _=>rfl) _).setCell (p:=⟨g,5,none⟩) (fun _=>rfl) _
def gI (w:World) (ao:Option Addr) (l:List ByteArray):Prop:=∀ k x,l[k]?=some x->∃ b off,ao=some ⟨b,off,none⟩/\b < w.heap.size/\w.cell? ⟨b,off + k,none⟩=some (.string x)
theorem gI.below {w w':World} {ao:Option Addr} {l:List ByteArray} (h:gI w ao l) (hb:Below w.heap.size w w'):gI w' ao l:=fun k x hx=>by obtain ⟨b,off,e,hlt,c⟩:=h k x hx;exact ⟨b,off,e,aL hlt hb.size,aC c hb⟩
theorem oM {S:Nat->Prop} {w:World} {ao:Option Addr} {n c:Nat} {l:List ByteArray} (h:Win S 9 1 w (.slice ao n c) n (l.map Value.string)):gI w ao l:=fun k x hx=>by
 have hk:k < l.length:=(aS.1 hx).1;have hn:l.length=n:=by have:=h.1;simpa using this
 obtain ⟨ao',cap,e1,h1,h2,hf⟩:=h.form;injection e1 with e1 e2 e3;subst e1;obtain ⟨g,off,e,hs,hg,hc,_⟩:=hf k (by omega);exact ⟨g,off,e,hg,by rw [hc,List.getElem?_map,hx];rfl⟩
theorem wT {s:ByteArray}:∀ (f k:Nat) (L:List Tok),allF s f k=.ok L->∃ L' t,L=L' ++ [t]/\t.kd=0
 | 0,k,L,h=>by cases h
 | f + 1,k,L,h=>by
  unfold allF at h;split at h
  · cases h
  ·
   rename_i t m _;split at h
   · injection h with h;rename_i h0;exact ⟨[],t,h.symm,h0⟩
   ·
    cases hq:allF s f m with
    | error e=>simp [hq] at h
    | ok M =>
     simp only [hq] at h;injection h with h;obtain ⟨L',u,e,h0⟩:=wT f m M hq;exact ⟨t :: L',u,by rw [<- h,e];rfl,h0⟩
theorem Oj {L':List Tok} {t:Tok} (h:t.kd=0):∀ k,(tkA (L' ++ [t]) k).kd ≠ 0->k < L'.length:=fun k hk=>by
 rcases Nat.lt_or_ge k L'.length with h1 | h1
 · exact h1
 ·
  exfalso;apply hk;by_cases e:k=L'.length
  · subst e;rw [jH (t:=t) (by simp)];exact h
  · rw [Ol (by simp;omega)];rfl
theorem TY {s:ByteArray}:∀ (f k:Nat) (out u:ByteArray) (m:Nat),txtF s f k out=some (u,m)->u.size<=40
 | 0,k,out,u,m,h=>by cases h
 | f + 1,k,out,u,m,h=>by
  unfold txtF at h;split at h
  ·
   split at h
   ·
    split at h
    · cases h
    · rename_i h2;injection h with h;injection h with h3 h4;subst h3;omega
   ·
    split at h
    · cases h
    · exact TY f _ _ u m h
  · cases h
theorem MM {s:ByteArray} {p m:Nat} {t:Tok} (h:tkO s p=some (t,m)):t.tx.size<=s.size + 40:=by
 unfold tkO at h;split at h
 ·
  split at h
  · injection h with h;injection h with h3 h4;subst h3;show (s.extract _ _).size<=_;rw [ByteArray.size_extract];omega
  · cases h
 split at h
 ·
  cases hq:txtO s (p:Int) with
  | none=>rw [hq] at h;cases h
  | some q =>
   obtain ⟨u,n⟩:=q;rw [hq] at h;injection h with h;injection h with h3 h4;subst h3;show u.size<=_;have hu:u.size<=40:=by
    unfold txtO at hq
    repeat' split at hq
    all_goals first | (cases hq;done) | exact TY _ _ _ _ _ hq
   omega
 split at h
 ·
  cases hq:clsO s (p:Int) with
  | none=>rw [hq] at h;cases h
  | some q =>
   obtain ⟨u,n⟩:=q;rw [hq] at h;injection h with h;injection h with h3 h4;subst h3;show (0:Nat)<=_;omega
 split at h
 · cases h
 · injection h with h;injection h with h3 h4;subst h3;show (s.extract _ _).size<=_;rw [ByteArray.size_extract];omega
theorem rH {s:ByteArray}:∀ (f k:Nat) (L:List Tok),k<=s.size->allF s f k=.ok L->∀ t ∈ L,t.tx.size<=s.size + 40
 | 0,k,L,hk,h=>by cases h
 | f + 1,k,L,hk,h=>by
  have one:∀ t m,nextO s k=some (t,m)->t.tx.size<=s.size + 40:=fun t m hq=>by
   unfold nextO at hq;split at hq
   · injection hq with hq;injection hq with h3 h4;subst h3;show (0:Nat)<=_;omega
   · exact MM hq
  unfold allF at h;split at h
  · cases h
  ·
   rename_i t m hq;have hb:=lV hq;split at h
   · injection h with h;intro u hu;rw [<- h,List.mem_singleton] at hu;subst hu;exact one u m hq
   ·
    cases hq2:allF s f m with
    | error e=>simp [hq2] at h
    | ok M =>
     simp only [hq2] at h;injection h with h;intro u hu;rw [<- h,List.mem_cons] at hu;rcases hu with rfl | hu
     · exact one u m hq
     · exact rH f m M hb.1 hq2 u hu
theorem oV {s:ByteArray}:∀ (f k:Nat) (L:List Tok),allF s f k=.ok L->L.length<=f
 | 0,k,L,h=>by cases h
 | f + 1,k,L,h=>by
  unfold allF at h;split at h
  · cases h
  ·
   rename_i t m _;split at h
   · injection h with h;rw [<- h];simp
   ·
    cases hq:allF s f m with
    | error e=>simp [hq] at h
    | ok M =>
     simp only [hq] at h;injection h with h;have:=oV f m M hq;rw [<- h];simp;omega
theorem Own.six_f {w:World} {g:Nat} {t:TypeId} {v0 v1 v2 v3 v4 v5:Value} (h:Own w g t [v0,v1,v2,v3,v4,v5]) :
  w.frozen? ⟨g,1,none⟩=false/\w.frozen? ⟨g,2,none⟩=false/\w.frozen? ⟨g,3,none⟩=false/\w.frozen? ⟨g,4,none⟩=false/\w.frozen? ⟨g,5,none⟩=false :=
 ⟨h.thaw 1,h.thaw 2,h.thaw 3,h.thaw 4,h.thaw 5⟩
theorem A3v (kd:Nat) (s:ByteArray) (g:Nat) (lo:Option Addr) (lc:Nat) (L:List Tok) (k:Nat) (F:Option Ft2) (hn:(L.length:Int)<=90000) (hk:k < L.length) (w:World) (h:Pd w g lo lc L k F) :
  Calls Tryz.prog 79 #[.pointer (some ⟨g,0,none⟩),.int .i64 (kd:Int),.string s] w fun e w'=>e=.returned (.bool (F.isNone && wdB L k kd s.data.toList))/\Below w.heap.size w w':=by
 have HB:=aH (Below.refl w.heap.size w);obtain ⟨c0,c1,c2,c3,c4,c5,cg⟩:=h.1.six_r;obtain ⟨t,ht⟩:∃ t,L[k]?=some t:=⟨_,aG hk⟩;obtain ⟨b,off,hlo,hb,a0,a1,-⟩:=h.2.1 k t ht;subst hlo;have HW:=aH (show wdB L k kd s.data.toList=(t.kd == kd && t.tx.toList == s.toList) from by unfold wdB;rw [jH ht,ByteArray.toList_eq,ByteArray.toList_eq]);have hfs:∀ f,F=some f->f.1 ≠ 0:=h.2.2.2;obtain ⟨n,hnn⟩:∃ n,L.length=n:=⟨_,rfl⟩;rw [hnn] at c0 hn hk;have hk1:(k:Int) < n:=by omega
 clear h ht c3 c4 c5
 cases F with
 | some f =>
  have c2':w.cell? ⟨g,2,none⟩=some (.int .i64 f.1):=c2;have ef:(f.1 == 0)=false:=aN.2 (hfs f rfl);clear c2 a0 a1 hfs HW;go_enter Tryz.func79,Tryz.ntmps79;go_wp2_with fail;go_quiet (fail);go_wp2;go_ret;exact ⟨rfl,below_drewN (Below.refl _ _) nq⟩
 | none =>
  have c2':w.cell? ⟨g,2,none⟩=some (.int .i64 0):=c2;clear c2 hfs;by_cases q:t.kd=kd
  · subst q;obtain ⟨z,hz⟩:∃ z,(t.tx.toList == s.toList)=z:=⟨_,rfl⟩;have HZ:=aH (show ((none:Option Ft2).isNone && wdB L k t.kd s.data.toList)=z from by rw [HW.o,hz];simp);go_enter Tryz.func79,Tryz.ntmps79;go_wp2_with fail;go_quiet (fail);go_wp2;go_ret;exact ⟨aJ HZ.o.symm,below_drewN (Below.refl _ _) nq⟩
  · have i4:((t.kd:Int) == (kd:Int))=false:=aN.2 (by omega);have HZ:=aH (show ((none:Option Ft2).isNone && wdB L k kd s.data.toList)=false from by rw [HW.o];simp [q]);clear a1;go_enter Tryz.func79,Tryz.ntmps79;go_wp2_with fail;go_quiet (fail);go_wp2;go_ret;exact ⟨aJ HZ.o.symm,below_drewN (Below.refl _ _) nq⟩
def B7H (L:List Tok) (c:Int) (k:Nat) (F:Option Ft2):Option Ft2:=match F with
 | none=>some (gH L c k)
 | some f=>some f
theorem JP (c:Int) (hc:c ≠ 0) (g:Nat) (lo:Option Addr) (lc:Nat) (L:List Tok) (k:Nat) (F:Option Ft2) (hn:(L.length:Int)<=90000) (hk:k < L.length) (w:World) (h:Pd w g lo lc L k F) :
  Calls Tryz.prog 49 #[.pointer (some ⟨g,0,none⟩),.int .i64 c] w fun e w'=>e=.returned (.tuple #[])/\But (fun j=>j=g) w w'/\Pd w' g lo lc L k (B7H L c k F):=by
 obtain ⟨c0,c1,c2,c3,c4,c5,cg⟩:=h.1.six_r
 cases F with
 | some f =>
  have c2':w.cell? ⟨g,2,none⟩=some (.int .i64 f.1):=c2;have ef:(f.1 == 0)=false:=aN.2 (h.2.2.2 f rfl);have HH:=aH h;clear c2 c0 c1 c3 c4 c5 h;go_enter Tryz.func49,Tryz.ntmps49;go_wp2
  first
   | (refine bodyPost_ret (results_none rfl _ _ _) rfl ?_;exact ⟨rfl,But.refl _ _,HH.o⟩)
   | (go_end0;exact ⟨rfl,But.refl _ _,HH.o⟩)
 | none =>
  obtain ⟨t,ht⟩:∃ t,L[k]?=some t:=⟨_,aG hk⟩;obtain ⟨b,off,hlo,hb,a0,a1,a2,a3,a4,a5,a6⟩:=h.2.1 k t ht;have hlg:b ≠ g:=h.2.2.1 _ hlo;obtain ⟨d1,d2,d3,d4,d5⟩:=h.1.six_f;have HT:=aH (show gH L c k=(c,(t.pos:Int)) from by unfold gH;rw [jH ht]);have HP:=aH ((h.fault (gH L c k) hc).below (Below.refl _ _).drew);have HU:=aH (((((But.refl (fun j=>j=g) w).setCell (p:=⟨g,2,none⟩) (fun _=>rfl) (.int .i64 (gH L c k).1)).setCell (p:=⟨g,3,none⟩) (fun _=>rfl) (.int .i64 (gH L c k).2)).setCell (p:=⟨g,4,none⟩) (fun _=>rfl) (.int .i64 0)).setCell (p:=⟨g,5,none⟩) (fun _=>rfl) (.int .i64 0)).drew;rw [HT.o] at HP HU;subst hlo;have c2':w.cell? ⟨g,2,none⟩=some (.int .i64 0):=c2;have c3':w.cell? ⟨g,3,none⟩=some (.int .i64 0):=c3;obtain ⟨n,hnn⟩:∃ n,L.length=n:=⟨_,rfl⟩;rw [hnn] at c0 hn hk;have hk1:(k:Int) < n:=by omega
  have hgb:¬ b=g:=hlg;have hbg:¬ g=b:=fun e=>hlg e.symm;have HRS:=aH (show B7H L c k none=some (c,(t.pos:Int)) from by rw [<- HT.o];rfl);clear h ht c2 c3 hlg a0 a1 a2 a3 a4 a5 d1;go_enter Tryz.func49,Tryz.ntmps49;go_wp2_with fail;go_region;go_wp2
  first
   | (refine bodyPost_ret (results_none rfl _ _ _) rfl ?_;exact ⟨rfl,HU.o,by rw [HRS.o];exact HP.o⟩)
   | (go_end0;exact ⟨rfl,HU.o,by rw [HRS.o];exact HP.o⟩)
def A4h (L:List Tok) (s:List UInt8) (k:Nat):Except Ft2 Nat->Nat × Option Ft2
 | .ok m=>(m,none)
 | .error f=>(k,some f)
theorem B2F (s:ByteArray) (g:Nat) (lo:Option Addr) (lc:Nat) (L:List Tok) (k:Nat) (hn:(L.length:Int)<=90000) (hk:k < L.length) (w:World) (h:Pd w g lo lc L k none) :
  Calls Tryz.prog 80 #[.pointer (some ⟨g,0,none⟩),.string s] w fun e w'=>e=.returned (.tuple #[])/\But (fun j=>j=g) w w'/\Pd w' g lo lc L (A4h L s.data.toList k (oO L s.data.toList k)).1 (A4h L s.data.toList k (oO L s.data.toList k)).2:=by
 have HWD:=aH (A3v 4 s g lo lc L k none hn hk w h);have HH:=aH h;have HFL:=aH (fun W hW=>JP 2 (by decide) g lo lc L k none hn hk W hW);obtain ⟨z,hz⟩:∃ z,wdB L k 4 s.data.toList=z:=⟨_,rfl⟩;rw [hz] at HWD;have HS:=aH (show oO L s.data.toList k=if z=true then .ok (k + 1) else .error (gH L 2 k) from by unfold oO;rw [hz]);have hw1:IntKind.i64.wrap ((k:Int) + 1)=(k:Int) + 1:=wI;clear h hz;go_enter Tryz.func80,Tryz.ntmps80;go_wp2_with fail;refine HWD.o.mono ?_;rintro e w1 ⟨rfl,hb1⟩;have H1:=aH (HH.o.below hb1);have HU1:=aH (But.of_below (S:=fun j=>j=g) hb1);clear hb1 HWD
 cases z with
 | false =>
  have HE:=aH (HS.o.trans (if_neg (by decide)));clear HS;go_wp2_with fail;refine (HFL.o _ H1.o).mono ?_;rintro e w2 ⟨rfl,hbu,hp⟩;have HU2:=aH (HU1.o.trans hbu (fun _ _ h=>h));have HP2:=aH hp;go_wp2
  first
   | (refine bodyPost_ret (results_none rfl _ _ _) rfl ?_;rw [HE.o];exact ⟨rfl,HU2.o,HP2.o⟩)
   | (go_end0;rw [HE.o];exact ⟨rfl,HU2.o,HP2.o⟩)
 | true =>
  have HE:=aH (HS.o.trans (if_pos rfl));obtain ⟨c0,c1,c2,c3,c4,c5,cg⟩:=H1.o.1.six_r;obtain ⟨d1,d2,d3,d4,d5⟩:=H1.o.1.six_f;have HP2:=aH (H1.o.at1 (k + 1) (.int .i64 ((k:Int) + 1)) (by simp));have HU2:=aH (HU1.o.setCell (p:=⟨g,1,none⟩) (fun _=>rfl) (.int .i64 ((k:Int) + 1)));clear HS c2 c3 c4 c5 d2 d3 d4 d5 c0;go_wp2
  first
   | (refine bodyPost_ret (results_none rfl _ _ _) rfl ?_;rw [HE.o];exact ⟨rfl,HU2.o,HP2.o⟩)
   | (go_end0;rw [HE.o];exact ⟨rfl,HU2.o,HP2.o⟩)
theorem A1C (s:ByteArray) (g:Nat) (lo:Option Addr) (lc:Nat) (L:List Tok) (k:Nat) (f:Ft2) (hn:(L.length:Int)<=90000) (hk:k < L.length) (w:World) (h:Pd w g lo lc L k (some f)) :
  Calls Tryz.prog 80 #[.pointer (some ⟨g,0,none⟩),.string s] w fun e w'=>e=.returned (.tuple #[])/\But (fun j=>j=g) w w'/\Pd w' g lo lc L k (some f):=by
 have HWD:=aH (A3v 4 s g lo lc L k (some f) hn hk w h);have HH:=aH h;have HFL:=aH (fun W hW=>JP 2 (by decide) g lo lc L k (some f) hn hk W hW);clear h;go_enter Tryz.func80,Tryz.ntmps80;go_wp2_with fail;refine HWD.o.mono ?_;rintro e w1 ⟨rfl,hb1⟩;have H1:=aH (HH.o.below hb1);have HU1:=aH (But.of_below (S:=fun j=>j=g) hb1);clear hb1 HWD;go_wp2_with fail;refine (HFL.o _ H1.o).mono ?_;rintro e w2 ⟨rfl,hbu,hp⟩;have HU2:=aH (HU1.o.trans hbu (fun _ _ h=>h));have HP2:=aH hp;go_wp2
 first
  | (refine bodyPost_ret (results_none rfl _ _ _) rfl ?_;exact ⟨rfl,HU2.o,HP2.o⟩)
  | (go_end0;exact ⟨rfl,HU2.o,HP2.o⟩)
theorem hasl_any (l:List ByteArray) (ao:Option Addr) (cap:Nat) (s:ByteArray) (hn:(l.length:Int)<=90000) (w:World) (hl:gI w ao l) :
  Calls Tryz.prog 81 #[.slice ao l.length cap,.string s] w fun e w'=>e=.returned (.bool (hasB l s))/\w=w':=by
 have HL:=aH hl;obtain ⟨n,hnn⟩:∃ n,l.length=n:=⟨_,rfl⟩;have HN:=aH hnn;rw [hnn] at hn ⊢;clear hl hnn;go_enter Tryz.func81,Tryz.ntmps81;go_wp2_with fail
 go_loopw [5] (fun b5 wr=>∃ k:Nat,b5=.int .i64 (k:Int)/\(k:Int)<=n/\aQ (hasB l s=hasB (l.drop k) s)/\wr=w) (fun b5 _=>n - (intOf b5).toNat)
 case atStart=>exact ⟨0,rfl,by omega,aH rfl,(by first | trivial | rfl)⟩
 case round =>
  obtain ⟨k,rfl,hk,HA,rfl⟩:=hrel;by_cases hlt:(k:Int) < n
  ·
   obtain ⟨x,hx⟩:∃ x,l[k]?=some x:=⟨_,aG (by have:=HN.o;omega)⟩;obtain ⟨b,off,rfl,hb,c⟩:=HL.o k x hx
   have HD:=aH (show l.drop k=x :: l.drop (k + 1) from by
    obtain ⟨h1,h2⟩:=aS.1 hx
    rw [List.drop_eq_getElem_cons h1,h2])
   have hw1:IntKind.i64.wrap ((k:Int) + 1)=(k:Int) + 1:=wI;obtain ⟨z,hz⟩:∃ z,(x.toList == s.toList)=z:=⟨_,rfl⟩;have HZ:=aH (show hasB l s=(z || hasB (l.drop (k + 1)) s) from by rw [HA.o,HD.o,<- hz];rfl);clear hx HD HA
   cases z
   ·
    go_wp2
    go_roundw
    case rel=>exact ⟨k + 1,by go_num,by omega,aH (by rw [HZ.o];rfl),(by first | trivial | rfl)⟩
    case measure=>simp [intOf];omega
   · go_wp2;go_ret;exact ⟨aJ (by rw [HZ.o];rfl),rfl⟩
  · have HE:=aH (show hasB l s=false from by rw [HA.o,List.drop_eq_nil_of_le (by have:=HN.o;omega)];rfl);have hlt':decide ((k:Int) < n)=false:=aF hlt;clear HA;go_wp2;go_ret;exact ⟨aJ HE.o.symm,rfl⟩
def C1B (g:Nat) (lo:Option Addr) (lc:Nat) (L:List Tok) (k:Nat) (r:Except Ft2 (ByteArray × Nat)) (e:Ending) (w':World):Prop:=match r with
 | .ok (x,m)=>e=.returned (.string x)/\Pd w' g lo lc L m none
 | .error f=>e=.returned (.string ⟨#[]⟩)/\Pd w' g lo lc L k (some f)
theorem B8V (l:List ByteArray) (ao:Option Addr) (cap:Nat) (hl:(l.length:Int)<=90000) (g:Nat) (lo:Option Addr) (lc:Nat) (L:List Tok) (k:Nat) (hn:(L.length:Int)<=90000) (hk:k < L.length) (htx:∀ t ∈ L,t.tx.size<=1000000) (w:World) (h:Pd w g lo lc L k none) (hN:gI w ao l) :
  Calls Tryz.prog 48 #[.pointer (some ⟨g,0,none⟩),.slice ao l.length cap] w fun e w'=>C1B g lo lc L k (pV L l k) e w'/\But (fun j=>j=g) w w':=by
 have HH:=aH h;have HNN:=aH hN;have HFL:=aH (fun (c:Int) (hc:c ≠ 0) W hW=>JP c hc g lo lc L k none hn hk W hW);obtain ⟨c0,c1,c2,c3,c4,c5,cg⟩:=h.1.six_r;have c2':w.cell? ⟨g,2,none⟩=some (.int .i64 0):=c2;obtain ⟨t,ht⟩:∃ t,L[k]?=some t:=⟨_,aG hk⟩;obtain ⟨b,off,hlo,hb,a0,a1,a2,a3,a4,a5,a6⟩:=h.2.1 k t ht;have HWD:=aH (fun (W:World)=>nU t.tx (by have:=htx t (aM ht);unfold maxLen;omega) W);have HSP:=aH (show pV L l k=if (t.kd == 1 && bN t.tx)=true then (if hasB l t.tx=true then .error (gH L 4 k) else .ok (t.tx,k + 1)) else .error (gH L 2 k) from by unfold pV;rw [jH ht]);generalize pV L l k=RES at *;have HHS:=aH (fun (W:World) (hW:gI W ao l)=>hasl_any l ao cap t.tx hl W hW);obtain ⟨n,hnn⟩:∃ n,L.length=n:=⟨_,rfl⟩;rw [hnn] at c0 hn hk;have hk1:(k:Int) < n:=by omega
 have hw1:IntKind.i64.wrap ((k:Int) + 1)=(k:Int) + 1:=wI;obtain ⟨m,hm⟩:∃ m,l.length=m:=⟨_,rfl⟩;rw [hm] at HHS ⊢;have HLO:=aH hlo;have HGG:=aH (show g < w.heap.size from cg);clear h hN ht c2 c3 c4 c5 htx;subst hlo;have H1:=aH (HH.o.below ((Below.refl w.heap.size w).alloc (Nat.le_refl _) (.cells #[.int .i64 (t.kd:Int),.string t.tx,.int .u64 (t.st.1:Int),.int .u64 (t.st.2.1:Int),.int .u64 (t.st.2.2.1:Int),.int .u64 (t.st.2.2.2:Int),.int .i64 (t.pos:Int)] 100)).drew);have HB1:=aH ((Below.refl w.heap.size w).alloc (Nat.le_refl _) (.cells #[.int .i64 (t.kd:Int),.string t.tx,.int .u64 (t.st.1:Int),.int .u64 (t.st.2.1:Int),.int .u64 (t.st.2.2.1:Int),.int .u64 (t.st.2.2.2:Int),.int .i64 (t.pos:Int)] 100)).drew;have HX1:=aH (Own.fresh w 100 [.int .i64 (t.kd:Int),.string t.tx,.int .u64 (t.st.1:Int),.int .u64 (t.st.2.1:Int),.int .u64 (t.st.2.2.1:Int),.int .u64 (t.st.2.2.2:Int),.int .i64 (t.pos:Int)]).on_drew;go_enter Tryz.func48,Tryz.ntmps48;go_wp2_with fail;go_region;have HU1:=aH (But.of_below (S:=fun j=>j=g) HB1.o);have HN1:=aH (HNN.o.below HB1.o);clear c0 c1 c2' cg a0 a1 a2 a3 a4 a5 a6 hb HB1;generalize World.drew _=w1 at *;generalize w.heap.size=G at *;have x0:w1.cell? ⟨G,0,none⟩=some (.int .i64 (t.kd:Int)):=HX1.o.cell 0;have x1:w1.cell? ⟨G,1,none⟩=some (.string t.tx):=HX1.o.cell 1;have xl:=HX1.o.lt;by_cases q:t.kd=1
 ·
  have i1:((t.kd:Int) != 1)=false:=by simp [q]
  have HK1:=aH (show (t.kd == 1)=true from beq_iff_eq.2 q);clear q;go_wp2_with fail;refine (HWD.o _).mono ?_;rintro e w2 ⟨rfl,rfl⟩
  cases hwb:bN t.tx
  case false =>
   have HE:=aH (show RES=.error (gH L 2 k) from by rw [HSP.o,hwb];simp);go_wp2_with fail;refine (HFL.o 2 (by decide) _ H1.o).mono ?_;rintro e w3 ⟨rfl,hbu,hp⟩;have HU3:=aH (HU1.o.trans hbu (fun _ _ h=>h));have HP3:=aH hp;clear hbu hp;go_wp2;go_ret;exact ⟨by rw [HE.o];exact ⟨rfl,HP3.o⟩,HU3.o⟩
  case true =>
   have HS2:=aH (show RES=if hasB l t.tx=true then .error (gH L 4 k) else .ok (t.tx,k + 1) from by rw [HSP.o,hwb,HK1.o];rfl);clear HSP;go_wp2_with fail;refine (HHS.o _ HN1.o).mono ?_;rintro e w2 ⟨rfl,rfl⟩
   cases hhb:hasB l t.tx
   case true =>
    have HE:=aH (show RES=.error (gH L 4 k) from by rw [HS2.o,hhb];rfl);go_wp2_with fail;refine (HFL.o 4 (by decide) _ H1.o).mono ?_;rintro e w3 ⟨rfl,hbu,hp⟩;have HU3:=aH (HU1.o.trans hbu (fun _ _ h=>h));have HP3:=aH hp;clear hbu hp;go_wp2;go_ret;exact ⟨by rw [HE.o];exact ⟨rfl,HP3.o⟩,HU3.o⟩
   case false =>
    have HE:=aH (show RES=.ok (t.tx,k + 1) from by rw [HS2.o,hhb];rfl);obtain ⟨c0,c1,c2,c3,c4,c5,cg⟩:=H1.o.1.six_r;have c2':w1.cell? ⟨g,2,none⟩=some (.int .i64 0):=c2;obtain ⟨d1,d2,d3,d4,d5⟩:=H1.o.1.six_f;have HP2:=aH (H1.o.at1 (k + 1) (.int .i64 ((k:Int) + 1)) (by simp));have HU2:=aH (HU1.o.setCell (p:=⟨g,1,none⟩) (fun _=>rfl) (.int .i64 ((k:Int) + 1)));have HX2:=aH (HX1.o.off (p:=⟨g,1,none⟩) (by have:=HGG.o;show G ≠ g;omega) (.int .i64 ((k:Int) + 1)));clear c2 c3 c4 c5 d2 d3 d4 d5 c0;go_upto_region 10 with fail;clear c1 c2' cg d1 x0 x1 xl;generalize World.setCell w1 _ _=w4 at *;have x1:w4.cell? ⟨G,1,none⟩=some (.string t.tx):=HX2.o.cell 1;have xl:=HX2.o.lt;go_wp2;go_ret;exact ⟨by rw [HE.o];exact ⟨rfl,HP2.o⟩,HU2.o⟩
 ·
  have i1:((t.kd:Int) != 1)=true:=by simp;omega
  have HK1:=aH (show (t.kd == 1)=false from aN.2 q);clear q;have HE:=aH (show RES=.error (gH L 2 k) from by rw [HSP.o,HK1.o];simp);go_wp2_with fail;refine (HFL.o 2 (by decide) _ H1.o).mono ?_;rintro e w3 ⟨rfl,hbu,hp⟩;have HU3:=aH (HU1.o.trans hbu (fun _ _ h=>h));have HP3:=aH hp;clear hbu hp;go_wp2;go_ret;exact ⟨by rw [HE.o];exact ⟨rfl,HP3.o⟩,HU3.o⟩
end Go.Proofs.YthkdnehgamefiaaGreat
