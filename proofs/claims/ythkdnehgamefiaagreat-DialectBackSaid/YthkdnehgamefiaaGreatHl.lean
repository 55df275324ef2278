import Derived.Test.YthkdnehgamefiaaGreatHy
import Derived.BigRegion
import Derived.Deep.QuietTactic
import Derived.Laws.StructEq
import Derived.Lib.SliceRun
namespace Go.Proofs.YthkdnehgamefiaaGreat
set_option linter.unusedVariables false
set_option maxHeartbeats 3200000
set_option maxRecDepth 1000000
open Go.RowKit
theorem XH {s:ByteArray}:∀ f k,k<=skF s f k
 | 0,k=>Nat.le_refl _
 | f + 1,k=>by
  unfold skF;split
  ·
   split
   · have:=XH (s:=s) f (k + 1);omega
   ·
    split
    · have:=XH (s:=s) f (k + ntO s k);omega
    · exact Nat.le_refl _
  · exact Nat.le_refl _
theorem B5R {s:ByteArray} {k:Nat} (hk:k < s.size) (h:Cs (byt s k)=true):1<=nmO s k:=by unfold nmO;obtain ⟨g,hg⟩:∃ g,s.size=g + 1:=⟨s.size - 1,by omega⟩;rw [show runB vY s s.size k=runB vY s (g + 1) k by rw [hg]];unfold runB;rw [if_pos ⟨hk,by unfold vY;rw [h];rfl⟩];omega
theorem A4r {s:ByteArray} {p m:Nat} {t:Tok} (hp:p < s.size) (h:tkO s p=some (t,m)):p < m/\m<=s.size/\t.pos=p/\1<=t.kd:=by
 unfold tkO at h;split at h
 ·
  rename_i hl;have h1:=B5R hp hl;have h2:=A3i (s:=s) (k:=p) (by omega);split at h
  · injection h with h;injection h with h3 h4;subst h3 h4;exact ⟨by omega,by omega,rfl,by show 1<=1;omega⟩
  · cases h
 ·
  split at h
  ·
   cases hq:txtO s (p:Int) with
   | none=>rw [hq] at h;cases h
   | some q =>
    obtain ⟨u,n⟩:=q;have:=MU hq;rw [hq] at h;injection h with h;injection h with h3 h4;subst h3 h4;exact ⟨this.1,this.2.1,rfl,by show 1<=2;omega⟩
  ·
   split at h
   ·
    cases hq:clsO s (p:Int) with
    | none=>rw [hq] at h;cases h
    | some q =>
     obtain ⟨u,n⟩:=q;have:=Eb hq;rw [hq] at h;injection h with h;injection h with h3 h4;subst h3 h4;exact ⟨this.1,this.2.1,rfl,by show 1<=3;omega⟩
   ·
    have h2:=MC hp;split at h
    · cases h
    · injection h with h;injection h with h3 h4;subst h3 h4;exact ⟨by omega,by omega,rfl,by show 1<=4;omega⟩
theorem lV {s:ByteArray} {k m:Nat} {t:Tok} (h:nextO s k=some (t,m)):m<=s.size/\(t.kd ≠ 0->k < m/\t.pos=skO s k/\skO s k < m)/\(t.kd=0->t.pos=s.size/\t=⟨0,⟨#[]⟩,set0,s.size⟩):=by
 unfold nextO at h;split at h
 · injection h with h;injection h with h3 h4;subst h3 h4;exact ⟨Nat.le_refl _,fun g=>absurd rfl g,fun _=>⟨rfl,rfl⟩⟩
 · have h1:=A4r (by omega) h;have h2:=XH (s:=s) (s.size + 1) k;change k<=skO s k at h2;exact ⟨h1.2.1,fun _=>⟨by omega,h1.2.2.1,h1.1⟩,fun g=>by omega⟩
def allF (s:ByteArray):Nat->Nat->Except Nat (List Tok)
 | 0,k=>.error k
 | f + 1,k=>match nextO s k with
  | none=>.error (skO s k)
  | some (t,m)=>if t.kd=0 then .ok [t] else match allF s f m with
   | .ok L=>.ok (t :: L)
   | .error e=>.error e
def addA (acc:List Tok):Except Nat (List Tok)->Except Nat (List Tok)
 | .ok L=>.ok (acc ++ L)
 | .error e=>.error e
def kS (s:ByteArray):Except Nat (List Tok):=allF s (s.size + 2) 0
theorem Lj {s:ByteArray} {f k:Nat} (hf:s.size < f + k) (hk:k<=s.size) (h:nextO s k=none):allF s f k=.error (skO s k):=by obtain ⟨g,rfl⟩:∃ g,f=g + 1:=⟨f - 1,by omega⟩;unfold allF;rw [h]
theorem xY {s:ByteArray} {f k m:Nat} {t:Tok} (hf:s.size < f + k) (hk:k<=s.size) (h:nextO s k=some (t,m)) (h0:t.kd=0):allF s f k=.ok [t]:=by obtain ⟨g,rfl⟩:∃ g,f=g + 1:=⟨f - 1,by omega⟩;unfold allF;rw [h];simp only;rw [if_pos h0]
theorem Cy {s:ByteArray} {f k m:Nat} {t:Tok} (hf:s.size < f + k) (hk:k<=s.size) (h:nextO s k=some (t,m)) (h0:t.kd ≠ 0):allF s f k=addA [t] (allF s (f - 1) m):=by
 obtain ⟨g,rfl⟩:∃ g,f=g + 1:=⟨f - 1,by omega⟩;rw [allF.eq_2,h];simp only;rw [if_neg h0,Nat.add_sub_cancel]
 cases allF s g m <;> rfl
theorem Ry (a b:List Tok) (r:Except Nat (List Tok)):addA a (addA b r)=addA (a ++ b) r:=by
 cases r
 · rfl
 · simp [addA]
def uF (L:List Tok):List Value:=L.flatMap Tok.row
theorem Om (L:List Tok) (t:Tok):uF (L ++ [t])=uF L ++ t.row:=by unfold uF;rw [List.flatMap_append];simp
theorem GU:(Tryz.prog.info? 100).map (fun i=>(i.zero,i.size,i.bytes))=some (some (.agg #[.int .i64 0,.string ⟨#[]⟩,.int .u64 0,.int .u64 0,.int .u64 0,.int .u64 0,.int .i64 0]),7,64):=by kernel_rfl
theorem cZ {t:TypeId} {z:Value} {size bytes:Nat} (h:(Tryz.prog.info? t).map (fun i=>(i.zero,i.size,i.bytes))=some (some z,size,bytes)):∃ i,Tryz.prog.info? t=some i/\i.zero=some z/\i.size=size/\i.bytes=bytes:=by
 cases hi:Tryz.prog.info? t with
 | none=>rw [hi] at h;cases h
 | some i =>
  rw [hi] at h;simp at h;exact ⟨i,rfl,h.1,h.2.1,h.2.2⟩
theorem kL {w:World} {B n k:Nat} {e:TypeId} {v:Value} {xs:List Value} (h:w.ownsRow B e k v n xs):∃ ao cap,v=.slice ao n cap:=by rcases h.2 with ⟨rfl,rfl⟩ | ⟨g,cap,cur,rfl,_⟩ <;> exact ⟨_,_,rfl⟩
theorem Ux {w:World} {B n k:Nat} {e:TypeId} {v:Value} {xs:List Value} (h:w.ownsRow B e k v n xs):∀ j,v.ownBlock=some j->B<=j:=fun j hj=>by
 rcases h.2 with ⟨rfl,_⟩ | ⟨g,cap,cur,rfl,hg,_⟩
 · simp [Value.ownBlock] at hj
 · simp [Value.ownBlock] at hj;omega
theorem Nt {w w':World} {B n k:Nat} {e:TypeId} {v:Value} {xs:List Value} (h:w.ownsRow B e k v n xs) (hk:∀ g,B<=g->g < w.heap.size->w'.heap[g]?=w.heap[g]?):w'.ownsRow B e k v n xs:=by
 refine ⟨h.1,?_⟩;rcases h.2 with h0 | ⟨g,cap,cur,e1,hg,hh,r⟩
 · exact .inl h0
 · exact .inr ⟨g,cap,cur,e1,hg,(hk g hg (lt_of_block hh)).trans hh,r⟩
theorem iK {w w':World} {B n k:Nat} {e:TypeId} {v:Value} {xs:List Value} (h:w.ownsRow B e k v n xs) (hb:Below w.heap.size w w'):w'.ownsRow B e k v n xs:=Nt h (fun g _ hg=>hb.block g hg)
theorem Uy {w:World} {B n k:Nat} {e:TypeId} {v:Value} {xs:List Value} (h:w.ownsRow B e k v n xs):∀ j,v.ownBlock=some j->j < w.heap.size:=fun j hj=>by
 rcases h.2 with ⟨rfl,_⟩ | ⟨g,cap,cur,rfl,hg,hh,_⟩
 · simp [Value.ownBlock] at hj
 · simp [Value.ownBlock] at hj;have:=lt_of_block hh;omega
theorem A2Z (w:World) (t:Tok):∀ j u,t.row[j]?=some u->(w.alloc (.cells #[.int .i64 (t.kd:Int),.string t.tx,.int .u64 (t.st.1:Int),.int .u64 (t.st.2.1:Int),.int .u64 (t.st.2.2.1:Int),.int .u64 (t.st.2.2.2:Int),.int .i64 (t.pos:Int)] 100)).cell? ((⟨w.heap.size,0,none⟩:Addr).add j)=some u:=fun j u h=>by have hO:=(Own.fresh w 100 t.row).cell j;rw [Addr.add_lit,Nat.zero_add];exact hO.trans h
theorem Oo (t:Tok):∀ u ∈ t.row,u.oneCell'=true:=by intro u hu;simp [Tok.row] at hu;rcases hu with rfl | rfl | rfl | rfl | rfl | rfl | rfl <;> rfl
@[go_sem 2000] theorem C0k (k n:Int) (w:World):(Instr.build 44 #[(0,.int .i64 k),(1,.int .i64 n)]).run Tryz.prog w=.ok (.agg #[.int .i64 k,.int .i64 n,.int .i64 0,.int .i64 0]) w:=run_build w _ _ _ (by kernel_rfl)
def B7T (o:Except Nat (List Tok)) (B:Nat) (e:Ending) (w:World):Prop:=match o with
 | .error k=>e=.returned (.tuple #[.slice none 0 0,.agg #[.int .i64 2,.int .i64 (k:Int),.int .i64 0,.int .i64 0]])
 | .ok L=>∃ v,e=.returned (.tuple #[v,.agg #[.int .i64 0,.int .i64 0,.int .i64 0,.int .i64 0]])/\w.ownsRow B 100 7 v L.length (uF L)
theorem PR (w:World) (k:Nat) (u0 u1 u2 u3:Value) (g:Nat) (hg:g ≠ k):(set4 w k u0 u1 u2 u3).heap[g]?=w.heap[g]? :=
 (Below.heap_setCell _ ⟨k,3,none⟩ u3 g hg).trans ((Below.heap_setCell _ ⟨k,2,none⟩ u2 g hg).trans ((Below.heap_setCell _ ⟨k,1,none⟩ u1 g hg).trans (Below.heap_setCell _ ⟨k,0,none⟩ u0 g hg)))
set_option maxRecDepth 100000 in
theorem Lm (s:ByteArray) (hs:s.size<=4000) (w:World) :
  Calls Tryz.prog 37 #[.string s] w fun e w'=>B7T (kS s) (w.heap.size + 1) e w'/\Below w.heap.size w w':=by
 obtain ⟨o,ho⟩:∃ o,kS s=o:=⟨_,rfl⟩;have HT0:=aH (show addA [] (allF s (s.size + 2) 0)=o/\s.size < s.size + 2 + 0 from ⟨by rw [<- ho];unfold kS;cases allF s (s.size + 2) 0 <;> rfl,by omega⟩);rw [ho];clear ho;have HX:=aH (fun (k:Nat) (hk:k<=5000) W=>pE s (by omega) (k:Int) (by omega) W);obtain ⟨i0,hi,hz0,hz1,hz2⟩:=cZ GU;have IL:=aH (And.intro hi (And.intro hz0 (And.intro hz1 hz2)));clear hi hz0 hz1 hz2;have HO0:=aH (Own.fresh w 44 [.int .i64 0,.int .i64 0,.int .i64 0,.int .i64 0]);have HB0:=aH ((Below.refl w.heap.size w).alloc (Nat.le_refl _) (.cells #[.int .i64 0,.int .i64 0,.int .i64 0,.int .i64 0] 44));have HR0:=aH (World.ownsRow_nil (w.alloc (.cells #[.int .i64 0,.int .i64 0,.int .i64 0,.int .i64 0] 44)) (w.heap.size + 1) 100 7);have hs0:w.heap.size + 1<=(w.alloc (.cells #[.int .i64 0,.int .i64 0,.int .i64 0,.int .i64 0] 44)).heap.size:=by simp
 go_enter Tryz.func37,Tryz.ntmps37;go_wp2_with fail;generalize w.alloc _=W0 at *
 go_loopw [4,5] (fun b4 b5 wr=>∃ (k f:Nat) (acc:List Tok) (ao:Option Addr) (cap:Nat),b4=.slice ao acc.length cap/\b5=.int .i64 (k:Int)/\(k:Int)<=s.size/\acc.length<=k/\aQ (addA acc (allF s f k)=o/\s.size < f + k) ∧
   aQ (wr.ownsRow (w.heap.size + 1) 100 7 (.slice ao acc.length cap) acc.length (uF acc))/\aQ (Own wr w.heap.size 44 [.int .i64 0,.int .i64 0,.int .i64 0,.int .i64 0])/\aQ (Below w.heap.size w wr)) (fun _ b5 _=>s.size + 1 - (intOf b5).toNat)
 case atStart=>exact ⟨0,s.size + 2,[],none,0,rfl,rfl,by omega,Nat.le_refl _,HT0,HR0,HO0,HB0⟩
 case round =>
  obtain ⟨k,f,acc,ao,cap,rfl,rfl,hk,hal,HT,HR,HO,HB⟩:=hrel;clear HT0 HR0 HO0 HB0;have HN:=aH (HX.o k (by omega));have hNT:Di s (k:Int).toNat=wL (skO s k) (nextO s k):=by rw [Int.toNat_natCast];rfl
  rw [hNT] at HN;clear hNT HX;have hk2:k<=s.size:=by omega
  cases hq:nextO s k with
  | none =>
   have HE:=aH (show o=.error (skO s k) by rw [<- HT.o.1,Lj HT.o.2 hk2 hq];rfl);rw [hq] at HN;simp only [wL,zU] at HN;generalize skO s k=p at *;clear HT hq;go_wp2_with fail;refine (HN.o _).mono ?_;rintro e w2 ⟨he,hb2⟩;subst he;have HO2:=aH ((HO.o.under hb2 HO.o.lt).on_alloc (.cells #[.int .i64 0,.string ⟨#[]⟩,.int .u64 0,.int .u64 0,.int .u64 0,.int .u64 0,.int .i64 (p:Int)] 100));have HB2':=aD HB.o hb2;have HB2:=aH (HB2'.alloc HB2'.size (.cells #[.int .i64 0,.string ⟨#[]⟩,.int .u64 0,.int .u64 0,.int .u64 0,.int .u64 0,.int .i64 (p:Int)] 100));have HX2:=aH (Own.fresh w2 100 [.int .i64 0,.string ⟨#[]⟩,.int .u64 0,.int .u64 0,.int .u64 0,.int .u64 0,.int .i64 (p:Int)]);have hlt2:w.heap.size < w2.heap.size:=aL HO.o.lt hb2.size;clear hb2 HO HB HR HN HB2';go_upto_region 7 with fail;generalize w2.alloc _=V at *;generalize w2.heap.size=g2 at *;obtain ⟨-,-,-,-,-,-,x6⟩:=HX2.o.seven;obtain ⟨z0,z1,z2,z3,y0,y1,y2,y3⟩:=HO2.o.four;have hxl:=HO2.o.lt;go_region;go_wp2;have hF:=(p4 HO2.o (.int .i64 2) (.int .i64 (p:Int)) (.int .i64 0) (.int .i64 0));have hB:=aR HB2.o (Nat.le_refl _) (.int .i64 2) (.int .i64 (p:Int)) (.int .i64 0) (.int .i64 0);rw [aW];have hF':=hF.on_drew;have hB':=hB.drew;clear z0 z1 z2 z3 y0 y1 y2 y3;obtain ⟨z0,z1,z2,z3,-⟩:=hF'.four;refine bodyPost_ret (by simp [results,Tryz.results37,go_sem,z0,z1,z2,z3];rfl) rfl ?_;exact ⟨by rw [HE.o];rfl,hB'⟩
  | some q =>
   obtain ⟨t,m⟩:=q;obtain ⟨q1,q2,q3⟩:=lV hq;have hm9:(m:Int)<=s.size:=(by omega);rw [hq] at HN;simp only [wL,zU] at HN;have HROW:=aH (Om acc t);have HNEWS:=aH (fun W=>A2Z W t);have HCEL:=aH (Oo t);have hrl:t.row.length=1 * 7:=rfl;have HTROW:=aH (show t.row=[.int .i64 (t.kd:Int),.string t.tx,.int .u64 (t.st.1:Int),.int .u64 (t.st.2.1:Int),.int .u64 (t.st.2.2.1:Int),.int .u64 (t.st.2.2.2:Int),.int .i64 (t.pos:Int)] from rfl);by_cases h0:t.kd=0
   ·
    have HE:=aH (show o=.ok (acc ++ [t]) by rw [<- HT.o.1,xY HT.o.2 hk2 hq h0];rfl);have HKD:=aH (show (t.kd:Int)=0 by omega);clear HT hq q2 q3 h0;go_wp2_with fail;refine (HN.o _).mono ?_;rintro e w2 ⟨he,hb2⟩;subst he;have HO2:=aH ((HO.o.under hb2 HO.o.lt).on_alloc (.cells #[.int .i64 (t.kd:Int),.string t.tx,.int .u64 (t.st.1:Int),.int .u64 (t.st.2.1:Int),.int .u64 (t.st.2.2.1:Int),.int .u64 (t.st.2.2.2:Int),.int .i64 (t.pos:Int)] 100));have HR2:=aH ((iK HR.o hb2).alloc (.cells #[.int .i64 (t.kd:Int),.string t.tx,.int .u64 (t.st.1:Int),.int .u64 (t.st.2.1:Int),.int .u64 (t.st.2.2.1:Int),.int .u64 (t.st.2.2.2:Int),.int .i64 (t.pos:Int)] 100));have HLT:=aH (Uy (iK HR.o hb2));have HB2':=aD HB.o hb2;have HB2:=aH (HB2'.alloc HB2'.size (.cells #[.int .i64 (t.kd:Int),.string t.tx,.int .u64 (t.st.1:Int),.int .u64 (t.st.2.1:Int),.int .u64 (t.st.2.2.1:Int),.int .u64 (t.st.2.2.2:Int),.int .i64 (t.pos:Int)] 100));have HX2:=aH (Own.fresh w2 100 [.int .i64 (t.kd:Int),.string t.tx,.int .u64 (t.st.1:Int),.int .u64 (t.st.2.1:Int),.int .u64 (t.st.2.2.1:Int),.int .u64 (t.st.2.2.2:Int),.int .i64 (t.pos:Int)]);have hlt2:w.heap.size < w2.heap.size:=aL HO.o.lt hb2.size;clear hb2 HO HB HR HN HB2';go_upto_region 8 with fail;generalize w2.alloc _=V at *;generalize w2.heap.size=g2 at *;obtain ⟨x0,x1,x2,x3,x4,x5,x6⟩:=HX2.o.seven;have hVs:w.heap.size + 1<=V.heap.size:=HO2.o.lt;have hxl:=HX2.o.lt
    go_wp2_with (first
     | (at_builtin;refine wpList_append_own _ rfl _ _ 80 rfl (w.heap.size + 1) 100 i0 (.agg #[.int .i64 0,.string ⟨#[]⟩,.int .u64 0,.int .u64 0,.int .u64 0,.int .u64 0,.int .i64 0]) 7 64 Tryz.underlying80 IL.o.1 IL.o.2.1 IL.o.2.2.1 IL.o.2.2.2 rfl (by decide) (.slice ao acc.length cap) acc.length (uF acc) rfl (HR2.o.alloc _) ⟨V.heap.size,0,none⟩ 1 1 t.row rfl hrl (HNEWS.o V) HCEL.o (by unfold maxLen;omega) (by omega) (by simp;omega) ?_))
    intro v' w4 hown4 hgrow _;have hown4':w4.ownsRow (w.heap.size + 1) 100 7 v' (acc ++ [t]).length (uF (acc ++ [t])):=(by rw [HROW.o,List.length_append];exact hown4);obtain ⟨ao',cap',rfl⟩:=kL hown4';have hge:=Ux HR2.o;have HR5:=aH hown4';have HO5:=aH ((HO2.o.on_alloc (.cells #[.int .i64 (t.kd:Int),.string t.tx,.int .u64 (t.st.1:Int),.int .u64 (t.st.2.1:Int),.int .u64 (t.st.2.2.1:Int),.int .u64 (t.st.2.2.2:Int),.int .i64 (t.pos:Int)] 100)).by_grown hgrow (fun e=>by have:=hge _ e.symm;omega));have HX5:=aH ((HX2.o.on_alloc (.cells #[.int .i64 (t.kd:Int),.string t.tx,.int .u64 (t.st.1:Int),.int .u64 (t.st.2.1:Int),.int .u64 (t.st.2.2.1:Int),.int .u64 (t.st.2.2.2:Int),.int .i64 (t.pos:Int)] 100)).by_grown hgrow (fun e=>by have:=HLT.o _ e.symm;omega));have HB5:=aH (show Below w.heap.size w w4 from (HB2.o.alloc HB2.o.size (.cells #[.int .i64 (t.kd:Int),.string t.tx,.int .u64 (t.st.1:Int),.int .u64 (t.st.2.1:Int),.int .u64 (t.st.2.2.1:Int),.int .u64 (t.st.2.2.2:Int),.int .i64 (t.pos:Int)] 100)).trans ((But.grown (S:=fun g=>w.heap.size<=g) (But.refl _ _) hgrow (fun k hk _=>by have:=hge k hk;omega)).below (by simp;omega) (fun _ h=>h)));clear hown4 hown4' hgrow HR2 HO2 HX2 HB2 x0 x1 x2 x3 x4 x5 x6 hge;obtain ⟨x0,-⟩:=HX5.o.seven;obtain ⟨z0,z1,z2,z3,y0,y1,y2,y3⟩:=HO5.o.four;have hkd:=HKD.o;go_wp2;rw [aW];have hF:=(p4 HO5.o (.int .i64 0) (.int .i64 0) (.int .i64 0) (.int .i64 0));have hB:=aR HB5.o (Nat.le_refl _) (.int .i64 0) (.int .i64 0) (.int .i64 0) (.int .i64 0);have hR:=Nt (w':=set4 _ w.heap.size (.int .i64 0) (.int .i64 0) (.int .i64 0) (.int .i64 0)) HR5.o (fun g hg _=>PR _ _ _ _ _ _ g (by omega));clear z0 z1 z2 z3 y0 y1 y2 y3;obtain ⟨z0,z1,z2,z3,-⟩:=hF.four;refine bodyPost_ret (by simp [results,Tryz.results37,go_sem,z0,z1,z2,z3];rfl) rfl ?_;exact ⟨by rw [HE.o];exact ⟨.slice ao' (acc ++ [t]).length cap',by simp,hR⟩,hB⟩
   ·
    have HT2:=aH (show addA (acc ++ [t]) (allF s (f - 1) m)=o/\s.size < (f - 1) + m from ⟨by rw [<- HT.o.1,Cy HT.o.2 hk2 hq h0,Ry],by have:=HT.o.2;have:=(q2 h0).1;omega⟩);have hkd:((t.kd:Int) == 0)=false:=aN.2 (by omega);have hkm:k < m:=(q2 h0).1;clear HT hq q2 q3;go_wp2_with fail;refine (HN.o _).mono ?_;rintro e w2 ⟨he,hb2⟩;subst he;have HO2:=aH ((HO.o.under hb2 HO.o.lt).on_alloc (.cells #[.int .i64 (t.kd:Int),.string t.tx,.int .u64 (t.st.1:Int),.int .u64 (t.st.2.1:Int),.int .u64 (t.st.2.2.1:Int),.int .u64 (t.st.2.2.2:Int),.int .i64 (t.pos:Int)] 100));have HR2:=aH ((iK HR.o hb2).alloc (.cells #[.int .i64 (t.kd:Int),.string t.tx,.int .u64 (t.st.1:Int),.int .u64 (t.st.2.1:Int),.int .u64 (t.st.2.2.1:Int),.int .u64 (t.st.2.2.2:Int),.int .i64 (t.pos:Int)] 100));have HLT:=aH (Uy (iK HR.o hb2));have HB2':=aD HB.o hb2;have HB2:=aH (HB2'.alloc HB2'.size (.cells #[.int .i64 (t.kd:Int),.string t.tx,.int .u64 (t.st.1:Int),.int .u64 (t.st.2.1:Int),.int .u64 (t.st.2.2.1:Int),.int .u64 (t.st.2.2.2:Int),.int .i64 (t.pos:Int)] 100));have HX2:=aH (Own.fresh w2 100 [.int .i64 (t.kd:Int),.string t.tx,.int .u64 (t.st.1:Int),.int .u64 (t.st.2.1:Int),.int .u64 (t.st.2.2.1:Int),.int .u64 (t.st.2.2.2:Int),.int .i64 (t.pos:Int)]);have hlt2:w.heap.size < w2.heap.size:=aL HO.o.lt hb2.size;clear hb2 HO HB HR HN HB2';go_upto_region 8 with fail;generalize w2.alloc _=V at *;generalize w2.heap.size=g2 at *;obtain ⟨x0,x1,x2,x3,x4,x5,x6⟩:=HX2.o.seven;have hVs:w.heap.size + 1<=V.heap.size:=HO2.o.lt;have hxl:=HX2.o.lt
    go_wp2_with (first
     | (at_builtin;refine wpList_append_own _ rfl _ _ 80 rfl (w.heap.size + 1) 100 i0 (.agg #[.int .i64 0,.string ⟨#[]⟩,.int .u64 0,.int .u64 0,.int .u64 0,.int .u64 0,.int .i64 0]) 7 64 Tryz.underlying80 IL.o.1 IL.o.2.1 IL.o.2.2.1 IL.o.2.2.2 rfl (by decide) (.slice ao acc.length cap) acc.length (uF acc) rfl (HR2.o.alloc _) ⟨V.heap.size,0,none⟩ 1 1 t.row rfl hrl (HNEWS.o V) HCEL.o (by unfold maxLen;omega) (by omega) (by simp;omega) ?_))
    intro v' w4 hown4 hgrow _;have hown4':w4.ownsRow (w.heap.size + 1) 100 7 v' (acc ++ [t]).length (uF (acc ++ [t])):=(by rw [HROW.o,List.length_append];exact hown4);obtain ⟨ao',cap',rfl⟩:=kL hown4';have hge:=Ux HR2.o;have HR5:=aH hown4';have HO5:=aH ((HO2.o.on_alloc (.cells #[.int .i64 (t.kd:Int),.string t.tx,.int .u64 (t.st.1:Int),.int .u64 (t.st.2.1:Int),.int .u64 (t.st.2.2.1:Int),.int .u64 (t.st.2.2.2:Int),.int .i64 (t.pos:Int)] 100)).by_grown hgrow (fun e=>by have:=hge _ e.symm;omega));have HX5:=aH ((HX2.o.on_alloc (.cells #[.int .i64 (t.kd:Int),.string t.tx,.int .u64 (t.st.1:Int),.int .u64 (t.st.2.1:Int),.int .u64 (t.st.2.2.1:Int),.int .u64 (t.st.2.2.2:Int),.int .i64 (t.pos:Int)] 100)).by_grown hgrow (fun e=>by have:=HLT.o _ e.symm;omega));have HB5:=aH (show Below w.heap.size w w4 from (HB2.o.alloc HB2.o.size (.cells #[.int .i64 (t.kd:Int),.string t.tx,.int .u64 (t.st.1:Int),.int .u64 (t.st.2.1:Int),.int .u64 (t.st.2.2.1:Int),.int .u64 (t.st.2.2.2:Int),.int .i64 (t.pos:Int)] 100)).trans ((But.grown (S:=fun g=>w.heap.size<=g) (But.refl _ _) hgrow (fun k hk _=>by have:=hge k hk;omega)).below (by simp;omega) (fun _ h=>h)));clear hown4 hown4' hgrow HR2 HO2 HX2 HB2 x0 x1 x2 x3 x4 x5 x6 hge;obtain ⟨x0,-⟩:=HX5.o.seven;obtain ⟨z0,z1,z2,z3,y0,y1,y2,y3⟩:=HO5.o.four;go_wp2
    go_roundw
    case rel=>exact ⟨m,f - 1,acc ++ [t],ao',cap',rfl,rfl,by omega,by rw [List.length_append];simp;omega,HT2,HR5,HO5,HB5⟩
    case measure=>simp [intOf];omega
open Go.Sort
theorem C1K (a b c d a' b' c' d':Int) (w:World) :
  (Op.equalIn 9999 29 (.agg #[.int .u64 a,.int .u64 b,.int .u64 c,.int .u64 d]) (.agg #[.int .u64 a',.int .u64 b',.int .u64 c',.int .u64 d'])).run Tryz.prog w=.ok (a == a' && b == b' && c == c' && d == d') w:=by
 have u3:=Tryz.underlying27;have a3:=Tryz.isAgg27;have z3:=Tryz.sizeOf27;rw [show (9999:Nat)=9998 + 1 from rfl,Op.equalIn];simp only [Sem.run_bind,run_underlying Tryz.underlying29,Result.andThen_ok];simp only [Std.Legacy.Range.forIn_eq_forIn_range',Std.Legacy.Range.size,Nat.sub_zero,Nat.add_sub_cancel,Nat.div_one,List.range'_succ,List.range'_zero,List.forIn_cons,List.forIn_nil];go_simp;by_cases h1:a=a' <;> by_cases h2:b=b' <;> by_cases h3:c=c' <;> by_cases h4:d=d' <;> simp [h1,h2,h3,h4]
@[go_sem 2000] theorem B7n (a e f g h p a' e' f' g' h' p':Int) (b b':ByteArray) (w:World) :
  (Op.equalIn 10000 100 (.agg #[.int .i64 a,.string b,.int .u64 e,.int .u64 f,.int .u64 g,.int .u64 h,.int .i64 p]) (.agg #[.int .i64 a',.string b',.int .u64 e',.int .u64 f',.int .u64 g',.int .u64 h',.int .i64 p'])).run Tryz.prog w =
   .ok (a == a' && decide (b=b') && (e == e' && f == f' && g == g' && h == h') && p == p') w:=by
 have u3:=Tryz.underlying3;have a3:=Tryz.isAgg3;have z3:=Tryz.sizeOf3;have u9:=Tryz.underlying9;have a9:=Tryz.isAgg9;have z9:=Tryz.sizeOf9;have u8:=Tryz.underlying27;have a8:=Tryz.isAgg27;have z8:=Tryz.sizeOf27;have hS:Tryz.prog.underlying 100=some (.struct (Tryz.prog.fieldsOf 100)):=by kernel_rfl
 have hp:Tryz.prog.stoodInHeld 100=false:=by kernel_rfl
 rw [show (10000:Nat)=9999 + 1 from rfl,run_equalIn_agg w 9999 100 _ _ hS hp];simp only [Program.fieldsOf,Tryz.underlying100];have hb:(b.toList == b'.toList)=decide (b=b'):=by
  rw [<- beq_toListBytes];by_cases h:b=b'
  · subst h;rw [beq_toListBytes];simp
  · rw [beq_toListBytes,aF h];refine beq_false_of_ne fun e=>h ?_;rw [ByteArray.toList_eq,ByteArray.toList_eq] at e;obtain ⟨⟨x⟩⟩:=b;obtain ⟨⟨y⟩⟩:=b';simp at e;rw [e]
 go_simp;have hq:=C1K e f g h e' f' g' h' w;generalize hQ:(e == e' && f == f' && g == g' && h == h')=q at hq;rw [hq];by_cases h1:a=a' <;> by_cases h2:b=b' <;> by_cases h3:p=p' <;> cases q <;> simp [h1,h2,h3,Result.andThen]
@[go_sem 2000] theorem C0j (a b c d a' b' c' d':Int) (w:World) :
  (Op.equalIn 10000 44 (.agg #[.int .i64 a,.int .i64 b,.int .i64 c,.int .i64 d]) (.agg #[.int .i64 a',.int .i64 b',.int .i64 c',.int .i64 d'])).run Tryz.prog w=.ok (a == a' && b == b' && c == c' && d == d') w:=by
 have u3:=Tryz.underlying3;have a3:=Tryz.isAgg3;have z3:=Tryz.sizeOf3;have u8:=Tryz.underlying42;have a8:=Tryz.isAgg42;have z8:=Tryz.sizeOf42;have hS:Tryz.prog.underlying 44=some (.struct (Tryz.prog.fieldsOf 44)):=by kernel_rfl
 have hp:Tryz.prog.stoodInHeld 44=false:=by kernel_rfl
 rw [show (10000:Nat)=9999 + 1 from rfl,run_equalIn_agg w 9999 44 _ _ hS hp];simp only [Program.fieldsOf,Tryz.underlying44];go_simp;by_cases h1:a=a' <;> by_cases h2:b=b' <;> by_cases h3:c=c' <;> by_cases h4:d=d' <;> simp [h1,h2,h3,h4]
def A4t (t u:Tok):Bool:=(t.kd:Int) == (u.kd:Int) && decide (t.tx=u.tx) && ((t.st.1:Int) == (u.st.1:Int) && (t.st.2.1:Int) == (u.st.2.1:Int) && (t.st.2.2.1:Int) == (u.st.2.2.1:Int) && (t.st.2.2.2:Int) == (u.st.2.2.2:Int)) && (t.pos:Int) == (u.pos:Int)
@[go_sem 3000] theorem C2G (t u:Tok) (w:World):(Op.equalIn 10000 100 (.agg #[.int .i64 (t.kd:Int),.string t.tx,.int .u64 (t.st.1:Int),.int .u64 (t.st.2.1:Int),.int .u64 (t.st.2.2.1:Int),.int .u64 (t.st.2.2.2:Int),.int .i64 (t.pos:Int)]) (.agg #[.int .i64 (u.kd:Int),.string u.tx,.int .u64 (u.st.1:Int),.int .u64 (u.st.2.1:Int),.int .u64 (u.st.2.2.1:Int),.int .u64 (u.st.2.2.2:Int),.int .i64 (u.pos:Int)])).run Tryz.prog w=.ok (A4t t u) w:=B7n ..
theorem A2X {t u:Tok} (h:A4t t u=true):t=u:=by
 obtain ⟨k,x,⟨a,b,c,d⟩,p⟩:=t;obtain ⟨k',x',⟨a',b',c',d'⟩,p'⟩:=u;simp [A4t] at h;obtain ⟨⟨⟨h1,h2⟩,⟨⟨h3,h4⟩,h5⟩,h6⟩,h7⟩:=h;obtain rfl:k=k':=by omega
 obtain rfl:a=a':=by omega
 obtain rfl:b=b':=by omega
 obtain rfl:c=c':=by omega
 obtain rfl:d=d':=by omega
 obtain rfl:p=p':=by omega
 rw [h2]
theorem Zk (t:Tok):A4t t t=true:=by simp [A4t]
instance:DecidableEq Tok:=fun t u=>if h:A4t t u=true then isTrue (A2X h) else isFalse (fun e=>h (e ▸ Zk t))
def sO (w:World) (ao:Option Addr) (L:List Tok):Prop:=∀ k t,L[k]?=some t->∃ g off,ao=some ⟨g,off,none⟩/\g < w.heap.size ∧
 w.cell? ⟨g,off + k * 7,none⟩=some (.int .i64 (t.kd:Int))/\w.cell? ⟨g,off + k * 7 + 1,none⟩=some (.string t.tx)/\w.cell? ⟨g,off + k * 7 + 2,none⟩=some (.int .u64 (t.st.1:Int))/\w.cell? ⟨g,off + k * 7 + 3,none⟩=some (.int .u64 (t.st.2.1:Int))/\w.cell? ⟨g,off + k * 7 + 4,none⟩=some (.int .u64 (t.st.2.2.1:Int))/\w.cell? ⟨g,off + k * 7 + 5,none⟩=some (.int .u64 (t.st.2.2.2:Int))/\w.cell? ⟨g,off + k * 7 + 6,none⟩=some (.int .i64 (t.pos:Int))
theorem sO.below {w w':World} {ao:Option Addr} {L:List Tok} (h:sO w ao L) (hb:Below w.heap.size w w'):sO w' ao L:=fun k t hk=>by obtain ⟨g,off,e,hg,h0,h1,h2,h3,h4,h5,h6⟩:=h k t hk;exact ⟨g,off,e,aL hg hb.size,aC h0 hb,aC h1 hb,aC h2 hb,aC h3 hb,aC h4 hb,aC h5 hb,aC h6 hb⟩
theorem A2Y:∀ (L:List Tok) (k:Nat) (x:Tok),L[k]?=some x->∀ c,c < 7->(uF L)[k * 7 + c]?=x.row[c]?
 | y :: L,0,x,h,c,hc=>by simp at h;subst h;show (y.row ++ uF L)[0 * 7 + c]?=_;rw [List.getElem?_append_left (by simp [Tok.row];omega)];simp
 | y :: L,k + 1,x,h,c,hc=>by show (y.row ++ uF L)[(k + 1) * 7 + c]?=_;rw [List.getElem?_append_right (by simp [Tok.row];omega),show (k + 1) * 7 + c - y.row.length=k * 7 + c by simp [Tok.row];omega];exact A2Y L k x (by simpa using h) c hc
theorem xE {w:World} {B n cap:Nat} {ao:Option Addr} {xs:List Value} (h:w.ownsRow B 100 7 (.slice ao n cap) n xs) (hn:0 < n):∃ g,ao=some ⟨g,0,none⟩/\B<=g/\g < w.heap.size/\∀ j,j < n * 7->w.cell? ⟨g,j,none⟩=xs[j]?:=by
 rcases h.2 with ⟨-,h0⟩ | ⟨g,cap',cur,hv,hb,hg,h1,h2,h3,h4⟩
 · omega
 · injection hv with e1 e2 e3;refine ⟨g,e1,hb,lt_of_block hg,fun j hj=>?_⟩;rw [cell_of_row w g j cur 100 (0,0) hg,<- h4,List.getElem?_take_of_lt hj,Array.getElem?_toList]
theorem qV {w:World} {B cap:Nat} {ao:Option Addr} {L:List Tok} (h:w.ownsRow B 100 7 (.slice ao L.length cap) L.length (uF L)):sO w ao L:=fun k t hk=>by
 have hlt:=(aS.1 hk).1;obtain ⟨g,e,-,hg,hc⟩:=xE h (by omega);have key:∀ c,c < 7->w.cell? ⟨g,0 + k * 7 + c,none⟩=t.row[c]?:=fun c hc7=>by rw [Nat.zero_add,hc (k * 7 + c) (by omega)];exact A2Y L k t hk c hc7
 exact ⟨g,0,e,hg,key 0 (by omega),key 1 (by omega),key 2 (by omega),key 3 (by omega),key 4 (by omega),key 5 (by omega),key 6 (by omega)⟩
def isLet (c:Int):Bool:=decide (97<=c) && decide (c<=122) || decide (65<=c) && decide (c<=90)
def Io (c:Int):Bool:=decide (48<=c) && decide (c<=57)
def vZ (i:Nat) (c:Int):Bool:=isLet c || (!(i == 0) && (Io c || c == 95))
theorem qQ (c:Int) (w:World):Calls Tryz.prog 63 #[.int .u8 c] w fun e w'=>e=.returned (.bool (isLet c))/\w=w':=by
 have H:=aH (show isLet c=(decide (97<=c) && decide (c<=122) || decide (65<=c) && decide (c<=90)) from rfl);by_cases h1:97<=c <;> by_cases h2:c<=122 <;> by_cases h3:65<=c <;> by_cases h4:c<=90
 all_goals first
  | (exfalso;omega)
  | (go_enter Tryz.func63,Tryz.ntmps63
     go_wp2;go_ret
     exact ⟨aJ (by rw [H.o];simp;omega),rfl⟩)
theorem PE (c:Int) (w:World):Calls Tryz.prog 64 #[.int .u8 c] w fun e w'=>e=.returned (.bool (Io c))/\w=w':=by
 have H:=aH (show Io c=(decide (48<=c) && decide (c<=57)) from rfl);by_cases h1:48<=c <;> by_cases h2:c<=57
 all_goals first
  | (exfalso;omega)
  | (go_enter Tryz.func64,Tryz.ntmps64
     go_wp2;go_ret
     exact ⟨aJ (by rw [H.o];simp;omega),rfl⟩)
def uH (s:ByteArray):Nat->Bool
 | 0=>true
 | k + 1=>uH s k && vZ k (byt s k)
theorem EE {s:ByteArray} {k:Nat} (h:vZ k (byt s k)=false):∀ n,k < n->uH s n=false
 | 0,hn=>by omega
 | n + 1,hn=>by
  unfold uH;by_cases e:k=n
  · subst e;rw [h];simp
  · rw [EE h n (by omega)];simp
def WX (s:ByteArray):Bool:=s.toList.isEmpty || s.toList == [109,111,100,117,108,101] || s.toList == [105,109,112,111,114,116] || s.toList == [119,97,116,101,114]
def bN (s:ByteArray):Bool:=!(WX s) && uH s s.size && decide ((s.size:Int)<=12)
theorem A3U (c:Int) (w:World) (h:isLet c=true):Calls Tryz.prog 63 #[.int .u8 c] w fun e w'=>e=.returned (.bool true)/\w=w':=(qQ c w).mono fun _ _ ⟨he,hw⟩=>⟨by rw [he,h],hw⟩
theorem Mt (c:Int) (w:World) (h:isLet c=false):Calls Tryz.prog 63 #[.int .u8 c] w fun e w'=>e=.returned (.bool false)/\w=w':=(qQ c w).mono fun _ _ ⟨he,hw⟩=>⟨by rw [he,h],hw⟩
theorem A7D (c:Int) (w:World) (h:Io c=true):Calls Tryz.prog 64 #[.int .u8 c] w fun e w'=>e=.returned (.bool true)/\w=w':=(PE c w).mono fun _ _ ⟨he,hw⟩=>⟨by rw [he,h],hw⟩
theorem ZM (c:Int) (w:World) (h:Io c=false):Calls Tryz.prog 64 #[.int .u8 c] w fun e w'=>e=.returned (.bool false)/\w=w':=(PE c w).mono fun _ _ ⟨he,hw⟩=>⟨by rw [he,h],hw⟩
theorem tQ (s:ByteArray) (hs:s.size<=maxLen) (w:World):Calls Tryz.prog 34 #[.string s] w fun e w'=>e=.returned (.bool (bN s))/\w=w':=by
 unfold maxLen at hs;have HW:=aH (show bN s=(!(WX s) && uH s s.size && decide ((s.size:Int)<=12)) from rfl);have HR:=aH (show WX s=(s.toList.isEmpty || s.toList == [109,111,100,117,108,101] || s.toList == [105,109,112,111,114,116] || s.toList == [119,97,116,101,114]) from rfl);obtain ⟨b0,h0⟩:∃ b0,s.toList.isEmpty=b0:=⟨_,rfl⟩;obtain ⟨b1,h1⟩:∃ b1,(s.toList == [109,111,100,117,108,101])=b1:=⟨_,rfl⟩;obtain ⟨b2,h2⟩:∃ b2,(s.toList == [105,109,112,111,114,116])=b2:=⟨_,rfl⟩;obtain ⟨b3,h3⟩:∃ b3,(s.toList == [119,97,116,101,114])=b3:=⟨_,rfl⟩;have HB:=aH (show WX s=(b0 || b1 || b2 || b3) by rw [HR.o,h0,h1,h2,h3]);clear HR;by_cases hb:(b0 || b1 || b2 || b3)=true
 ·
  cases b0 <;> cases b1 <;> cases b2 <;> cases b3
  all_goals first
   | (exfalso;revert hb;decide)
   | (clear hb
      go_enter Tryz.func34,Tryz.ntmps34;go_wp2;go_ret
      exact ⟨aJ (by rw [HW.o,HB.o];rfl),rfl⟩)
 ·
  obtain ⟨rfl,rfl,rfl,rfl⟩:b0=false/\b1=false/\b2=false/\b3=false:=by revert hb;cases b0 <;> cases b1 <;> cases b2 <;> cases b3 <;> decide
  clear hb;have H0:=aH (show uH s 0=true from rfl);go_enter Tryz.func34,Tryz.ntmps34;go_wp2
  go_loop [3] (fun i=>∃ k:Nat,k<=s.size/\i=.int .i64 k/\aQ (uH s k=true)) (fun i=>s.size - (intOf i).toNat)
  case atStart=>exact ⟨0,Nat.zero_le _,rfl,H0⟩
  case round =>
   obtain ⟨k,hk,rfl,HA⟩:=hrel;clear H0 h0 h1 h2 h3;by_cases hlt:k < s.size
   ·
    obtain ⟨c,hc⟩:∃ c:Int,(s[k].toNat:Int)=c:=⟨_,rfl⟩;have HC:=aH (show byt s k=c by rw [dI hlt,hc]);have hok:∀ b,vZ k c=b->aQ (vZ k (byt s k)=b):=fun b h=>aH (by rw [HC.o];exact h);have HN:vZ k c=false->aQ (bN s=false):=fun h=>aH (by rw [HW.o,EE (k:=k) (by rw [HC.o];exact h) _ hlt];simp);have HY:vZ k c=true->aQ (uH s (k + 1)=true):=fun h=>aH (by unfold uH;rw [HA.o,HC.o,h];rfl);clear hok;obtain ⟨bl,hl⟩:∃ bl,isLet c=bl:=⟨_,rfl⟩;have HL:=aH hl;clear hl
    cases bl with
    | true =>
     have H1:=HY (by unfold vZ;rw [HL.o];rfl);clear HY HN;go_wp2_with (go_at_call 63;refine (A3U _ _ HL.o).mono ?_;rintro e w' ⟨rfl,rfl⟩)
     go_round
     case rel=>exact ⟨k + 1,by omega,by go_num,H1⟩
     case measure=>simp [intOf];omega
    | false =>
     cases k with
     | zero =>
      have H1:=HN (by unfold vZ;rw [HL.o];rfl);clear HY HN;go_wp2_with (go_at_call 63;refine (Mt _ _ HL.o).mono ?_;rintro e w' ⟨rfl,rfl⟩);go_ret;exact ⟨aJ H1.o.symm,rfl⟩
     | succ k =>
      have hk0:(((k + 1:Nat):Int) == 0)=false:=(by rw [aN];omega);have hk1:((k:Int) + 1 == 0)=false:=(by rw [aN];omega);obtain ⟨bd,hd⟩:∃ bd,Io c=bd:=⟨_,rfl⟩;have HD:=aH hd;clear hd
      cases bd with
      | true =>
       have H1:=HY (by unfold vZ;rw [HL.o,HD.o];rfl);clear HY HN;go_wp2_with (first | (go_at_call 63;refine (Mt _ _ HL.o).mono ?_;rintro e w' ⟨rfl,rfl⟩) | (go_at_call 64;refine (A7D _ _ HD.o).mono ?_;rintro e w' ⟨rfl,rfl⟩))
       go_round
       case rel=>exact ⟨k + 1 + 1,by omega,by go_num,H1⟩
       case measure=>simp [intOf];omega
      | false =>
       obtain ⟨bu,hu⟩:∃ bu,(c != 95)=bu:=⟨_,rfl⟩
       cases bu with
       | false =>
        have hu':(c == 95)=true:=(by rw [bne] at hu;revert hu;cases (c == 95) <;> simp);have H1:=HY (by unfold vZ;rw [HL.o,HD.o,hu'];rfl);clear HY HN hu';go_wp2_with (first | (go_at_call 63;refine (Mt _ _ HL.o).mono ?_;rintro e w' ⟨rfl,rfl⟩) | (go_at_call 64;refine (ZM _ _ HD.o).mono ?_;rintro e w' ⟨rfl,rfl⟩))
        go_round
        case rel=>exact ⟨k + 1 + 1,by omega,by go_num,H1⟩
        case measure=>simp [intOf];omega
       | true =>
        have hu':(c == 95)=false:=(by rw [bne] at hu;revert hu;cases (c == 95) <;> simp);have H1:=HN (by unfold vZ;rw [HL.o,HD.o,hu'];rfl);clear HY HN hu';go_wp2_with (first | (go_at_call 63;refine (Mt _ _ HL.o).mono ?_;rintro e w' ⟨rfl,rfl⟩) | (go_at_call 64;refine (ZM _ _ HD.o).mono ?_;rintro e w' ⟨rfl,rfl⟩));go_ret;exact ⟨aJ H1.o.symm,rfl⟩
   · obtain rfl:k=s.size:=(by omega);go_wp2;go_ret;exact ⟨aJ (by rw [HW.o,HB.o,HA.o];simp),rfl⟩
inductive Ex where
 | mk (op:Int) (text:ByteArray) (s0 s1 s2 s3:Int) (kids:List Ex)
namespace Ex
def op:Ex->Int | .mk o _ _ _ _ _ _=>o
def text:Ex->ByteArray | .mk _ t _ _ _ _ _=>t
def s0:Ex->Int | .mk _ _ a _ _ _ _=>a
def s1:Ex->Int | .mk _ _ _ a _ _ _=>a
def s2:Ex->Int | .mk _ _ _ _ a _ _=>a
def s3:Ex->Int | .mk _ _ _ _ _ a _=>a
def kids:Ex->List Ex | .mk _ _ _ _ _ _ k=>k
end Ex
def exv (x:Ex) (ko:Option Addr) (kc:Nat):Value:=.agg #[.int .i64 x.op,.string x.text,.int .u64 x.s0,.int .u64 x.s1,.int .u64 x.s2,.int .u64 x.s3,.slice ko x.kids.length kc]
def aV (w:World):Nat->Option Addr->List Ex->Prop
 | 0,_,K=>K=[]
 | n + 1,ao,K=>∀ (k:Nat) (x:Ex),K[k]?=some x->∃ g off ko kc,ao=some ⟨g,off,none⟩/\g < w.heap.size ∧
   w.cell? ⟨g,off + k * 7,none⟩=some (.int .i64 x.op)/\w.cell? ⟨g,off + k * 7 + 1,none⟩=some (.string x.text) ∧
   w.cell? ⟨g,off + k * 7 + 2,none⟩=some (.int .u64 x.s0)/\w.cell? ⟨g,off + k * 7 + 3,none⟩=some (.int .u64 x.s1) ∧
   w.cell? ⟨g,off + k * 7 + 4,none⟩=some (.int .u64 x.s2)/\w.cell? ⟨g,off + k * 7 + 5,none⟩=some (.int .u64 x.s3) ∧
   w.cell? ⟨g,off + k * 7 + 6,none⟩=some (.slice ko x.kids.length kc)/\aV w n ko x.kids
theorem aV.below {w w':World} (hb:Below w.heap.size w w'):∀ {n:Nat} {ao:Option Addr} {K:List Ex},aV w n ao K->aV w' n ao K
 | 0,_,_,h=>h
 | n + 1,ao,K,h=>fun k x hk=>by obtain ⟨g,off,ko,kc,e,hg,c0,c1,c2,c3,c4,c5,c6,hr⟩:=h k x hk;exact ⟨g,off,ko,kc,e,aL hg hb.size,aC c0 hb,aC c1 hb,aC c2 hb,aC c3 hb,aC c4 hb,aC c5 hb,aC c6 hb,aV.below hb hr⟩
theorem aV.nil (w:World) (n:Nat) (ao:Option Addr):aV w n ao []:=by
 cases n with
 | zero=>rfl
 | succ n=>intro k x h;simp at h
theorem aV.more {w:World}:∀ {n:Nat} {ao:Option Addr} {K:List Ex},aV w n ao K->aV w (n + 1) ao K
 | 0,ao,K,h=>by have h0:K=[]:=h;subst h0;exact aV.nil w 1 ao
 | n + 1,ao,K,h=>fun k x hk=>by obtain ⟨g,off,ko,kc,e,hg,c0,c1,c2,c3,c4,c5,c6,hr⟩:=h k x hk;exact ⟨g,off,ko,kc,e,hg,c0,c1,c2,c3,c4,c5,c6,hr.more⟩
def grt:Nat->Ex->Bool
 | 0,_=>true
 | n + 1,x=>decide (8 < x.kids.length) || decide (60 < x.text.size) || x.kids.any (grt n)
theorem mI {n:Nat} {x y:Ex} (h:grt (n + 1) x=false) {k:Nat} (hy:x.kids[k]?=some y):grt n y=false:=by unfold grt at h;simp only [Bool.or_eq_false_iff] at h;exact (List.any_eq_false.1 h.2 y (aM hy) |> Bool.eq_false_iff.2)
theorem lY {n:Nat} {x:Ex} (h:grt n x=false):x.kids.length<=8/\x.text.size<=60:=by
 cases n with
 | zero=>cases h
 | succ n =>
  unfold grt at h;simp only [Bool.or_eq_false_iff,decide_eq_false_iff_not] at h;omega
theorem aV.cut {w:World}:∀ {n m:Nat} {x:Ex} {ao:Option Addr},grt n x=false->aV w m ao x.kids->aV w n ao x.kids
 | 0,m,x,ao,h,_=>by cases h
 | n + 1,0,x,ao,h,hk=>by have h0:x.kids=[]:=hk;rw [h0];exact aV.nil _ _ _
 | n + 1,m + 1,x,ao,h,hk=>fun k y hy=>by obtain ⟨g,off,ko,kc,e,hg,c0,c1,c2,c3,c4,c5,c6,hr⟩:=hk k y hy;exact ⟨g,off,ko,kc,e,hg,c0,c1,c2,c3,c4,c5,c6,aV.cut (mI h hy) hr⟩
def bJ:Nat->Ex->Int
 | 0,_=>0
 | n + 1,x=>x.kids.foldl (fun m y=>max m (bJ n y)) 0 + 1
theorem zY {α β:Type} (f:α->β->α) (a:α) (l:List β) {k:Nat} {y:β} (h:l[k]?=some y):(l.take (k + 1)).foldl f a=f ((l.take k).foldl f a) y:=by have hk:=(aS.1 h).1;rw [List.take_succ_eq_append_getElem hk,List.foldl_append];have:l[k]=y:=(aS.1 h).2;rw [this];rfl
theorem Eo {α β:Type} (f:α->β->α) (a:α) (l:List β):(l.take l.length).foldl f a=l.foldl f a:=by rw [List.take_length]
theorem GG {α β:Type} {f:α->β->α} {P:α->Prop} (a:α):∀ (l:List β),P a->(∀ a y,y ∈ l->P a->P (f a y))->P (l.foldl f a)
 | [],ha,_=>ha
 | y :: l,ha,h=>by rw [List.foldl_cons];exact GG (f a y) l (h a y (List.mem_cons_self ..) ha) (fun a z hz=>h a z (List.mem_cons_of_mem _ hz))
theorem mH:∀ (n:Nat) (x:Ex),0<=bJ n x/\bJ n x<=n
 | 0,_=>by unfold bJ;omega
 | n + 1,x=>by unfold bJ;have h:=GG (f:=fun m y=>max m (bJ n y)) (P:=fun m:Int=>0<=m/\m<=n) 0 x.kids (by omega) (fun a y _ h=>by have:=mH n y;omega);omega
theorem qM (n:Nat) (x:Ex) (k:Nat):0<=(x.kids.take k).foldl (fun m y=>max m (bJ n y)) 0/\(x.kids.take k).foldl (fun m y=>max m (bJ n y)) 0<=n :=
 GG (f:=fun m y=>max m (bJ n y)) (P:=fun m:Int=>0<=m/\m<=n) 0 _ (by omega) (fun a y _ h=>by have:=mH n y;omega)
theorem fX {P:Value->Value->Value->Value->Value->Value->Value->Prop} (f:∀ a b c d e g h,P a b c d e g h) (X:Ex) (ko:Option Addr) (kc:Nat):P (.int .i64 X.op) (.string X.text) (.int .u64 X.s0) (.int .u64 X.s1) (.int .u64 X.s2) (.int .u64 X.s3) (.slice ko X.kids.length kc):=f _ _ _ _ _ _ _
abbrev Rs:=Except (Int × Int) (Ex × Nat)
def tk0:Tok:=⟨0,⟨#[]⟩,set0,0⟩
def tkA (L:List Tok) (k:Nat):Tok:=L.getD k tk0
def isS (L:List Tok) (k:Nat) (s:List UInt8):Bool:=(tkA L k).kd == 4 && (tkA L k).tx.data.toList == s
def jW (L:List Tok) (c:Int) (k:Nat):Rs:=.error (c,((tkA L k).pos:Int))
def lF (op:Int) (t:ByteArray):Ex:=.mk op t 0 0 0 0 []
def Pb (op:Int) (x:Ex):Ex:=.mk op ⟨#[]⟩ 0 0 0 0 [x]
def yX (L:List Tok) (k:Nat):Rs :=
 if bN (tkA L k).tx=true then
  (if isS L (k + 1) [58,58]=true then
   (if ((tkA L (k + 2)).kd == 1 && bN (tkA L (k + 2)).tx)=true then .ok (lF 11 ((tkA L k).tx ++ ⟨#[58,58]⟩ ++ (tkA L (k + 2)).tx),k + 3) else jW L 2 (k + 2))
   else .ok (lF 11 (tkA L k).tx,k + 1))
 else jW L 2 k
def tyZ (L:List Tok) (X:Nat->Rs) (big:Bool) (k:Nat):Rs :=
 if (tkA L k).kd=2 then .ok (lF 1 (tkA L k).tx,k + 1)
 else if (tkA L k).kd=3 then .ok (.mk 2 ⟨#[]⟩ ((tkA L k).st.1:Int) ((tkA L k).st.2.1:Int) ((tkA L k).st.2.2.1:Int) ((tkA L k).st.2.2.2:Int) [],k + 1)
 else if (tkA L k).kd=1 then yX L k
 else if isS L k [46]=true then .ok (lF 3 ⟨#[]⟩,k + 1)
 else if isS L k [40]=true then
  (if big=true then jW L 3 k
   else match X (k + 1) with
    | .ok (e,m)=>if isS L m [41]=true then .ok (e,m + 1) else jW L 2 m
    | .error e=>.error e)
 else jW L 2 k
def jG (L:List Tok) (X:Nat->Rs) (big:Bool) (k:Nat):Rs :=
 match tyZ L X big k with
 | .error e=>.error e
 | .ok (e,m) =>
  if isS L m [42]=true then .ok (Pb 6 e,m + 1)
  else if isS L m [43]=true then .ok (Pb 7 e,m + 1)
  else if isS L m [63]=true then .ok (Pb 8 e,m + 1)
  else .ok (e,m)
def Qh (f:Ex->Ex):Rs->Rs
 | .ok (e,m)=>.ok (f e,m)
 | .error e=>.error e
def preO (L:List Tok) (X:Nat->Rs) (big:Bool) (k:Nat):Rs :=
 if isS L k [38]=true then Qh (Pb 9) (jG L X big (k + 1))
 else if isS L k [33]=true then Qh (Pb 10) (jG L X big (k + 1))
 else if isS L k [126]=true then
  (match jG L X big (k + 1) with
   | .ok (e,m)=>if isS L m [126]=true then .ok (Pb 13 e,m + 1) else jW L 2 m
   | .error e=>.error e)
 else if ((tkA L k).kd == 1 && decide (k + 1 < L.length) && isS L (k + 1) [58])=true then
  (if bN (tkA L k).tx=true then Qh (fun e=>.mk 12 (tkA L k).tx 0 0 0 0 [e]) (jG L X big (k + 2)) else jW L 2 k)
 else jG L X big k
def jC (L:List Tok) (k:Nat):Bool :=
 (tkA L k).kd == 1 || (tkA L k).kd == 2 || (tkA L k).kd == 3 || isS L k [38] || isS L k [33] || isS L k [126] || isS L k [46] || isS L k [40]
def yY (L:List Tok) (pre:Nat->Rs):Nat->List Ex->Nat->Except (Int × Int) (List Ex × Nat)
 | 0,A,k=>.ok (A,k)
 | f + 1,A,k=>if jC L k=true then (match pre k with | .ok (e,m)=>yY L pre f (A ++ [e]) m | .error e=>.error e) else .ok (A,k)
def Fa (op:Int):List Ex->Ex
 | [x]=>x
 | K=>.mk op ⟨#[]⟩ 0 0 0 0 K
def lC (L:List Tok) (pre:Nat->Rs) (k:Nat):Rs :=
 match pre k with
 | .error e=>.error e
 | .ok (e,m)=>match yY L pre (L.length + 1) [e] m with
  | .error e=>.error e
  | .ok (K,m')=>.ok (Fa 4 K,m')
def chL (L:List Tok) (sq:Nat->Rs):Nat->List Ex->Nat->Except (Int × Int) (List Ex × Nat)
 | 0,A,k=>.ok (A,k)
 | f + 1,A,k=>if isS L k [47]=true then (match sq (k + 1) with | .ok (e,m)=>chL L sq f (A ++ [e]) m | .error e=>.error e) else .ok (A,k)
def chO (L:List Tok) (sq:Nat->Rs) (k:Nat):Rs :=
 match sq k with
 | .error e=>.error e
 | .ok (e,m)=>match chL L sq (L.length + 1) [e] m with
  | .error e=>.error e
  | .ok (K,m')=>.ok (Fa 5 K,m')
def exO (L:List Tok):Nat->Nat->Rs
 | 0=>chO L (lC L (preO L (fun _=>.error (0,0)) true))
 | d + 1=>chO L (lC L (preO L (exO L d) false))
def dD (w:World) (D:Nat):Nat->Option Addr->List Ex->Prop
 | 0,_,K=>K=[]
 | n + 1,ao,K=>∀ (k:Nat) (x:Ex),K[k]?=some x->∃ b off ko kc,ao=some ⟨b,off,none⟩/\b < w.heap.size/\D<=b ∧
   w.cell? ⟨b,off + k * 7,none⟩=some (.int .i64 x.op)/\w.cell? ⟨b,off + k * 7 + 1,none⟩=some (.string x.text) ∧
   w.cell? ⟨b,off + k * 7 + 2,none⟩=some (.int .u64 x.s0)/\w.cell? ⟨b,off + k * 7 + 3,none⟩=some (.int .u64 x.s1) ∧
   w.cell? ⟨b,off + k * 7 + 4,none⟩=some (.int .u64 x.s2)/\w.cell? ⟨b,off + k * 7 + 5,none⟩=some (.int .u64 x.s3) ∧
   w.cell? ⟨b,off + k * 7 + 6,none⟩=some (.slice ko x.kids.length kc)/\dD w D n ko x.kids
theorem dD.but {S:Nat->Prop} {D:Nat} {w w':World} (hb:But S w w') (hS:∀ j,S j->j < D):∀ {n:Nat} {ao:Option Addr} {K:List Ex},dD w D n ao K->dD w' D n ao K
 | 0,_,_,h=>h
 | n + 1,ao,K,h=>fun k x hx=>by
  obtain ⟨b,off,ko,kc,e,hlt,hne,c0,c1,c2,c3,c4,c5,c6,hk⟩:=h k x hx;have hn:¬ S b:=fun hs=>by have:=hS b hs;omega
  exact ⟨b,off,ko,kc,e,aL hlt hb.size,hne,hb.cell hn c0,hb.cell hn c1,hb.cell hn c2,hb.cell hn c3,hb.cell hn c4,hb.cell hn c5,hb.cell hn c6,dD.but hb hS hk⟩
theorem dD.low {D D':Nat} {w:World} (hD:D'<=D):∀ {n:Nat} {ao:Option Addr} {K:List Ex},dD w D n ao K->dD w D' n ao K
 | 0,_,_,h=>h
 | n + 1,ao,K,h=>fun k x hx=>by obtain ⟨b,off,ko,kc,e,hlt,hne,c0,c1,c2,c3,c4,c5,c6,hk⟩:=h k x hx;exact ⟨b,off,ko,kc,e,hlt,Nat.le_trans hD hne,c0,c1,c2,c3,c4,c5,c6,dD.low hD hk⟩
theorem dD.more {D:Nat} {w:World}:∀ {n:Nat} {ao:Option Addr} {K:List Ex},dD w D n ao K->dD w D (n + 1) ao K
 | 0,ao,K,h=>fun k x hx=>by have h:K=[]:=h;subst h;simp at hx
 | n + 1,ao,K,h=>fun k x hx=>by obtain ⟨b,off,ko,kc,e,hlt,hne,c0,c1,c2,c3,c4,c5,c6,hk⟩:=h k x hx;exact ⟨b,off,ko,kc,e,hlt,hne,c0,c1,c2,c3,c4,c5,c6,dD.more hk⟩
theorem dD.upto {D:Nat} {w:World} {n:Nat} {ao:Option Addr} {K:List Ex} (h:dD w D n ao K):∀ m,n<=m->dD w D m ao K
 | 0,hm=>by
  obtain rfl:n=0:=by omega
  exact h
 | m + 1,hm=>by
  by_cases e:n=m + 1
  · rw [<- e];exact h
  · exact dD.more (dD.upto h m (by omega))
theorem dD.hask {D:Nat} {w:World}:∀ {n:Nat} {ao:Option Addr} {K:List Ex},dD w D n ao K->aV w n ao K
 | 0,_,_,h=>h
 | n + 1,ao,K,h=>fun k x hx=>by obtain ⟨b,off,ko,kc,e,hlt,hne,c0,c1,c2,c3,c4,c5,c6,hk⟩:=h k x hx;exact ⟨b,off,ko,kc,e,hlt,c0,c1,c2,c3,c4,c5,c6,hk.hask⟩
theorem dD.nil (w:World) (D:Nat) (ao:Option Addr):dD w D 0 ao []:=rfl
def fE:Option (Int × Int)->Int | none=>0 | some f=>f.1
def fA:Option (Int × Int)->Int | none=>0 | some f=>f.2
def Rd (w:World) (g:Nat) (lo:Option Addr) (lc:Nat) (L:List Tok) (k:Nat) (F:Option (Int × Int)):Prop :=
 Own w g 153 [.slice lo L.length lc,.int .i64 (k:Int),.int .i64 (fE F),.int .i64 (fA F),.int .i64 0,.int .i64 0]/\sO w lo L/\∀ a,lo=some a->a.block ≠ g
theorem sO.but {w w':World} {g:Nat} {ao:Option Addr} {L:List Tok} (h:sO w ao L) (hg:∀ a,ao=some a->a.block ≠ g) (hb:But (fun j=>j=g) w w'):sO w' ao L:=fun k t hk=>by obtain ⟨b,off,e,hlt,h0,h1,h2,h3,h4,h5,h6⟩:=h k t hk;have hne:b ≠ g:=hg _ e;exact ⟨b,off,e,aL hlt hb.size,hb.cell hne h0,hb.cell hne h1,hb.cell hne h2,hb.cell hne h3,hb.cell hne h4,hb.cell hne h5,hb.cell hne h6⟩
def jU (w:World) (g:Nat) (lo:Option Addr) (lc:Nat) (L:List Tok) (r:Rs) (D:Nat) (X:Ex) (ko:Option Addr) (w':World):Prop :=
 match r with
 | .ok (x,m)=>Rd w' g lo lc L m none/\x=X/\∃ n,dD w' D n ko X.kids
 | .error f=>f.1 ≠ 0/\∃ k,Rd w' g lo lc L k (some f)
theorem But.set7 (w:World) (g:Nat) (u0 u1 u2 u3 u4 u5 u6:Value):But (fun j=>j=g) w (bI w g u0 u1 u2 u3 u4 u5 u6) :=
 (((((((But.refl (fun j=>j=g) w).setCell (p:=⟨g,0,none⟩) (fun _=>rfl) u0).setCell (p:=⟨g,1,none⟩) (fun _=>rfl) u1).setCell (p:=⟨g,2,none⟩) (fun _=>rfl) u2).setCell (p:=⟨g,3,none⟩) (fun _=>rfl) u3).setCell (p:=⟨g,4,none⟩) (fun _=>rfl) u4).setCell (p:=⟨g,5,none⟩) (fun _=>rfl) u5).setCell (p:=⟨g,6,none⟩) (fun _=>rfl) u6
theorem jH {L:List Tok} {k:Nat} {t:Tok} (h:L[k]?=some t):tkA L k=t:=by unfold tkA;rw [List.getD_eq_getElem?_getD,h];rfl
theorem Ol {L:List Tok} {k:Nat} (h:L.length<=k):tkA L k=tk0:=by unfold tkA;rw [List.getD_eq_getElem?_getD,List.getElem?_eq_none h];rfl
section
variable (a p:Int) (b:ByteArray) (c d e f:Int) (w:World)
@[go_sem 2000] theorem B7p:(Instr.field 100 (.agg #[.int .i64 a,.string b,.int .u64 c,.int .u64 d,.int .u64 e,.int .u64 f,.int .i64 p]) 0).run Tryz.prog w=.ok (.int .i64 a) w:=by kernel_rfl
@[go_sem 2000] theorem B7q:(Instr.field 100 (.agg #[.int .i64 a,.string b,.int .u64 c,.int .u64 d,.int .u64 e,.int .u64 f,.int .i64 p]) 1).run Tryz.prog w=.ok (.string b) w:=by kernel_rfl
@[go_sem 2000] theorem B7r:(Instr.field 100 (.agg #[.int .i64 a,.string b,.int .u64 c,.int .u64 d,.int .u64 e,.int .u64 f,.int .i64 p]) 3).run Tryz.prog w=.ok (.int .i64 p) w:=by kernel_rfl
end
theorem Rd.below {w w':World} {g:Nat} {lo:Option Addr} {lc:Nat} {L:List Tok} {k:Nat} {F:Option (Int × Int)} (h:Rd w g lo lc L k F) (hb:Below w.heap.size w w'):Rd w' g lo lc L k F :=
 ⟨h.1.under hb h.1.lt,h.2.1.below hb,h.2.2⟩
theorem Jm (L:List Tok) (k:Nat) (s:ByteArray):isS L k s.data.toList=((tkA L k).kd == 4 && (tkA L k).tx.toList == s.toList):=by unfold isS;rw [ByteArray.toList_eq,ByteArray.toList_eq]
def ex0:Ex:=.mk 0 ⟨#[]⟩ 0 0 0 0 []
end Go.Proofs.YthkdnehgamefiaaGreat
