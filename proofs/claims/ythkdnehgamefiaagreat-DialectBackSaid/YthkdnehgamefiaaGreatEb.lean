import Derived.Test.YthkdnehgamefiaaGreatEa
import Derived.Test.YthkdnehgamefiaaGreatOpenExA
import Derived.Test.YthkdnehgamefiaaGreatSz
import Derived.Test.YthkdnehgamefiaaGreatDpH
namespace Go.Proofs.YthkdnehgamefiaaGreat
set_option linter.unusedVariables false
set_option maxHeartbeats 6400000
set_option maxRecDepth 1000000
set_option maxRecDepth 1000000
open Go.ChangeShapes Go.WideShapes Go.ChangeAt Go.RowKit Go.Deep
theorem dD.of0 {w:World}:∀ {n:Nat} {ao:Option Addr} {K:List Ex},aV w n ao K->dD w 0 n ao K
 | 0,_,_,h=>h
 | n + 1,ao,K,h=>fun k x hk=>by obtain ⟨g,off,ko,kc,e,hg,c0,c1,c2,c3,c4,c5,c6,hr⟩:=h k x hk;exact ⟨g,off,ko,kc,e,hg,Nat.zero_le _,c0,c1,c2,c3,c4,c5,c6,dD.of0 hr⟩
theorem zK:∀ (n:Nat) (x:Ex),grt n x=false->fit 90001 n x=true
 | 0,x,h=>by cases h
 | n + 1,x,h=>by
  have hl:=lY h;unfold fit;rw [Bool.and_eq_true,decide_eq_true_eq,List.all_eq_true]
  exact ⟨by omega,fun y hy=>by
   obtain ⟨k,hk⟩:=List.getElem?_of_mem hy
   exact zK n y (mI h hk)⟩
theorem fit_up:∀ (n:Nat) (x:Ex),fit 90001 n x=true->fit 90001 (n + 1) x=true
 | 0,x,h=>by cases h
 | n + 1,x,h=>by unfold fit at h ⊢;rw [Bool.and_eq_true,List.all_eq_true] at h ⊢;exact ⟨h.1,fun y hy=>fit_up n y (h.2 y hy)⟩
theorem fit_to53 {x:Ex} (h:fit 90001 17 x=true):fit 90001 53 x=true:=by
 have q:∀ k,fit 90001 (17 + k) x=true:=fun k=>by
  induction k with
  | zero=>exact h
  | succ k ih=>exact fit_up _ _ ih
 exact q 36
theorem A5X:∀ (n j:Nat) (x:Ex),grt n x=false->(∀ i,bW i x)->txs 100000 j x=true
 | 0,_,x,h,_=>by cases h
 | n + 1,0,x,h,_=>rfl
 | n + 1,j + 1,x,h,hs=>by have hl:=lY h;have h1:=hs 1;unfold bW at h1;unfold P64 at h1;unfold txs Oy;rw [Bool.and_eq_true,Bool.and_eq_true,Bool.and_eq_true,Bool.and_eq_true,Bool.and_eq_true,decide_eq_true_eq,decide_eq_true_eq,decide_eq_true_eq,decide_eq_true_eq,decide_eq_true_eq,List.all_eq_true];refine ⟨⟨by omega,⟨⟨⟨by have:=h1.1.1;omega,by have:=h1.1.2.1;omega⟩,by have:=h1.1.2.2.1;omega⟩,by have:=h1.1.2.2.2;omega⟩⟩,fun y hy=>?_⟩;obtain ⟨k,hk⟩:=List.getElem?_of_mem hy;exact A5X n j y (mI h hk) fun i=>by have:=hs (i + 1);unfold bW at this;exact this.2 k y hk
theorem grt_okx {x:Ex} (h:grt 17 x=false) (hs:∀ i,bW i x):Okx x:=⟨fun j=>A5X 17 j x h hs,fit_to53 (zK 17 x h)⟩
theorem hug_out {m:Md} (h:hugB m=false):m.nm.size<=50/\m.im.length<=10/\grt 17 m.wa=false/\m.ru.length<=30/\(∀ x ∈ m.im,x.size<=50)/\∀ r ∈ m.ru,r.1.size<=50/\grt 17 r.2=false:=by unfold hugB at h;simp only [Bool.or_eq_false_iff,decide_eq_false_iff_not,List.any_eq_false,Bool.or_eq_true,decide_eq_true_eq,not_or] at h;obtain ⟨h1,h2,h3,h4,h5,h6⟩:=h;exact ⟨by omega,by omega,h3,by omega,fun x hx=>by have:=h5 x hx;omega,fun r hr=>⟨by have:=(h6 r hr).1;omega,by simpa using (h6 r hr).2⟩⟩
theorem fieldsR:∃ f0 f1:Field,Tryz.prog.underlying 51=some (.struct #[f0,f1])/\f0.type=9/\f1.type=32/\f0.offset=0/\f1.offset=1:=⟨_,_,Tryz.underlying51,rfl,rfl,rfl,rfl⟩
theorem fieldsM:∃ f0 f1 f2 f3 f4:Field,Tryz.prog.underlying 35=some (.struct #[f0,f1,f2,f3,f4])/\f0.type=9/\f1.type=22/\f2.type=4/\f3.type=32/\f4.type=33 ∧
  f0.offset=0/\f1.offset=1/\f2.offset=2/\f3.offset=3/\f4.offset=10:=⟨_,_,_,_,_,Tryz.underlying35,rfl,rfl,rfl,rfl,rfl,rfl,rfl,rfl,rfl,rfl⟩
theorem cells_rule:Tryz.prog.cellsOf 51=8:=by kernel_rfl
theorem cells_mod:Tryz.prog.cellsOf 35=11:=by kernel_rfl
theorem cells_bool:Tryz.prog.cellsOf 4=1:=by kernel_rfl
theorem cells_strs:Tryz.prog.cellsOf 22=1:=by kernel_rfl
theorem cells_rules:Tryz.prog.cellsOf 33=1:=by kernel_rfl
section
variable {H:Type} {enc:TypeId × Value->H} {W:World} {sp:Nat->Bool} {held:Bool}
theorem rules_of {f:Nat} (c:Value) (x:DataW H × List MemPlace) (h:DataW.trod enc Tryz.prog W 0 sp held f 33 [c]=some x) :
  ∃ (L:List (ByteArray × Ex)) (ro:Option Addr) (rc:Nat),c=.slice ro L.length rc/\(∃ n,sN W 0 n ro L)/\(∀ r ∈ L,∀ n,bW n r.2)/\L.length<=maxLen/\L.length<=rc:=by
 rcases DataW.trod_slice Tryz.underlying33 h with ⟨hcs,_⟩ | ⟨a,len,cap,elems,rest,n,hn,hcs,_,hb,hl,hm,hlen,hel,_,_⟩
 · simp at hcs;subst hcs;exact ⟨[],none,0,rfl,⟨0,fun k x h=>by simp at h⟩,fun r hr=>absurd hr List.not_mem_nil,Nat.zero_le _,Nat.zero_le _⟩
 ·
  simp at hcs;subst hcs hn;have hspot:0 < len->a.spot=none:=fun h0=>by have hk1:=hel 0 h0;rw [aG (by omega)] at hk1;obtain ⟨cs',hc,_⟩:=Option.bind_eq_some_iff.1 hk1;rw [cells_rule] at hc;obtain ⟨_,hcl2,hat⟩:=World.cells?_some hc;have w0:=hat 0 (by omega);rw [aG (by omega)] at w0;have:=World.cell?_spot w0;simpa [Addr.add] using this
  have each:∀ k,k < len->∃ X:ByteArray × Ex,∃ b off ko kc,some a=some ⟨b,off,none⟩/\b < W.heap.size/\W.cell? ⟨b,off + k * 8,none⟩=some (.string X.1) ∧
    W.cell? ⟨b,off + k * 8 + 1,none⟩=some (.int .i64 X.2.op)/\W.cell? ⟨b,off + k * 8 + 2,none⟩=some (.string X.2.text)/\W.cell? ⟨b,off + k * 8 + 3,none⟩=some (.int .u64 X.2.s0)/\W.cell? ⟨b,off + k * 8 + 4,none⟩=some (.int .u64 X.2.s1) ∧
    W.cell? ⟨b,off + k * 8 + 5,none⟩=some (.int .u64 X.2.s2)/\W.cell? ⟨b,off + k * 8 + 6,none⟩=some (.int .u64 X.2.s3)/\W.cell? ⟨b,off + k * 8 + 7,none⟩=some (.slice ko X.2.kids.length kc)/\aV W n ko X.2.kids/\(∀ n,bW n X.2):=fun k hk=>by
   have hk1:=hel k hk;rw [aG (by omega)] at hk1;obtain ⟨cs',hc,ht⟩:=Option.bind_eq_some_iff.1 hk1;rw [cells_rule] at hc;obtain ⟨_,hcl2,hat⟩:=World.cells?_some hc;obtain ⟨f0,f1,hu,t0,t1,o0,o1⟩:=fieldsR;obtain ⟨ys,n1,hn1,_,hcl,hyl,hfd⟩:=DataW.trod_struct hu ht;have g0:=hfd 0 f0 rfl;have g1:=hfd 1 f1 rfl;rw [t0,o0,Ao] at g0;rw [t1,o1,lK] at g1
   match cs',hcl2,ys,hyl with
   | [c0,c1,c2,c3,c4,c5,c6,c7],_,[y0,y1],_ =>
    simp at g0 g1;obtain ⟨x0,r0,_⟩:=DataW.trod_string Tryz.underlying9 g0;simp at r0;subst r0;obtain ⟨X,ko,kc,hcs,hkk,hss⟩:=Cz n1 (fun g _=>Uf g) _ _ g1;simp only [List.cons.injEq,and_true] at hcs;obtain ⟨rfl,rfl,rfl,rfl,rfl,rfl,rfl⟩:=hcs;have w0:=hat 0 (by omega);have w1:=hat 1 (by omega);have w2:=hat 2 (by omega);have w3:=hat 3 (by omega);have w4:=hat 4 (by omega);have w5:=hat 5 (by omega);have w6:=hat 6 (by omega);have w7:=hat 7 (by omega);have hs:a.spot=none:=hspot (by omega);obtain ⟨b,off,spot⟩:=a;obtain rfl:spot=none:=hs;have e (j:Nat):((⟨b,off,none⟩:Addr).add (k * 8)).add j=⟨b,off + k * 8 + j,none⟩:=Aj _ _;rw [e] at w0 w1 w2 w3 w4 w5 w6 w7;exact ⟨(x0,X),b,off,ko,kc,rfl,World.block_lt_of_cell? W _ w0,w0,w1,w2,w3,w4,w5,w6,w7,by subst hn1;exact hkk.more,hss⟩
  obtain ⟨L,hL,hk⟩:=oN each;refine ⟨L,some a,cap,by rw [hL],⟨n,fun k X hX=>?_⟩,fun r hr m=>?_,by rw [hL];omega,by rw [hL];omega⟩
  · obtain ⟨g,off,ko,kc,e0,e1,c0,c1,c2,c3,c4,c5,c6,c7,r,_⟩:=hk k X hX;exact ⟨g,off,ko,kc,e0,e1,Nat.zero_le _,c0,c1,c2,c3,c4,c5,c6,c7,dD.of0 r⟩
  · obtain ⟨k,hX⟩:=List.getElem?_of_mem hr;obtain ⟨g,off,ko,kc,e0,e1,c0,c1,c2,c3,c4,c5,c6,c7,_,s⟩:=hk k r hX;exact s m
theorem strs_cap {f:Nat} {qo:Option Addr} {m qc:Nat} {x:DataW H × List MemPlace} (h:DataW.trod enc Tryz.prog W 0 sp held f 22 [.slice qo m qc]=some x):m<=qc:=by
 rcases DataW.trod_slice Tryz.underlying22 h with ⟨hcs,_⟩ | ⟨a,len,cap,elems,rest,n,hn,hcs,_,hb,hl,_⟩
 · simp at hcs;omega
 · simp at hcs;omega
structure ModIn (W:World) (m:Md) (io:Option Addr) (ic:Nat) (ko:Option Addr) (kc:Nat) (ro:Option Addr) (rc:Nat) (n:Nat):Prop where
 im:gI W io m.im
 wa:dD W 0 n ko m.wa.kids
 ru:sN W 0 n ro m.ru
 ni:m.im.length<=maxLen/\m.im.length<=ic
 nr:m.ru.length<=maxLen/\m.ru.length<=rc
 sw:∀ i,bW i m.wa
 sr:∀ r ∈ m.ru,∀ i,bW i r.2
theorem dD.mores {w:World} {D:Nat}:∀ {n:Nat} {ao:Option Addr} {K:List Ex},dD w D n ao K->dD w D (n + 1) ao K
 | 0,ao,K,h=>by have h0:K=[]:=h;subst h0;exact fun k x hk=>by simp at hk
 | n + 1,ao,K,h=>fun k x hk=>by obtain ⟨g,off,ko,kc,e,hg,hD,c0,c1,c2,c3,c4,c5,c6,hr⟩:=h k x hk;exact ⟨g,off,ko,kc,e,hg,hD,c0,c1,c2,c3,c4,c5,c6,dD.mores hr⟩
theorem dD.upTo {w:World} {D n m:Nat} {ao:Option Addr} {K:List Ex} (h:dD w D n ao K) (hm:n<=m):dD w D m ao K:=by
 induction m with
 | zero =>
  have e:n=0:=by omega
  subst e;exact h
 | succ m ih =>
  by_cases c:n=m + 1
  · subst c;exact h
  · exact (ih (by omega)).mores
theorem open_mod {base:Nat} {v:Value} {d:DataW H} {p:List MemPlace} (hval:Value.okWide Tryz.prog W .any base 35 v) (h:DataW.Trod enc Tryz.prog W 0 sp held 35 v d p) :
  ∃ (m:Md) (io:Option Addr) (ic:Nat) (ko:Option Addr) (kc:Nat) (ro:Option Addr) (rc n:Nat),v=.agg #[.string m.nm,.slice io m.im.length ic,.bool m.wet,.int .i64 m.wa.op,.string m.wa.text,.int .u64 m.wa.s0,.int .u64 m.wa.s1,.int .u64 m.wa.s2,.int .u64 m.wa.s3,.slice ko m.wa.kids.length kc,.slice ro m.ru.length rc]/\ModIn W m io ic ko kc ro rc n:=by
 unfold Value.okWide at hval;rw [Tryz.underlying35] at hval;obtain ⟨cs,rfl,hsz,_⟩:=hval;obtain ⟨fuel,hf⟩:=h;obtain ⟨l⟩:=cs;simp only [Value.cells] at hf;obtain ⟨f0,f1,f2,f3,f4,hu,t0,t1,t2,t3,t4,o0,o1,o2,o3,o4⟩:=fieldsM;obtain ⟨ys,n,hn,_,hcl,hyl,hfd⟩:=DataW.trod_struct hu hf;subst hn;rw [cells_mod] at hcl;have g0:=hfd 0 f0 rfl;have g1:=hfd 1 f1 rfl;have g2:=hfd 2 f2 rfl;have g3:=hfd 3 f3 rfl;have g4:=hfd 4 f4 rfl;rw [t0,o0,Ao] at g0;rw [t1,o1,cells_strs] at g1;rw [t2,o2,cells_bool] at g2;rw [t3,o3,lK] at g3;rw [t4,o4,cells_rules] at g4
 match l,hcl,ys,hyl with
 | [c0,c1,c2,c3,c4,c5,c6,c7,c8,c9,cA],_,[y0,y1,y2,y3,y4],_ =>
  simp at g0 g1 g2 g3 g4;obtain ⟨x0,r0,_⟩:=DataW.trod_string Tryz.underlying9 g0;obtain ⟨x2,r2,_⟩:=DataW.trod_bool Tryz.underlying4 g2;simp at r0 r2;subst r0 r2;obtain ⟨I,io,ic,rfl,hI,hIm⟩:=B6j _ _ g1;have hic:=strs_cap g1;obtain ⟨X,ko,kc,hcs,hkk,hss⟩:=Cz n (fun g _=>Uf g) _ _ g3;simp only [List.cons.injEq,and_true] at hcs;obtain ⟨rfl,rfl,rfl,rfl,rfl,rfl,rfl⟩:=hcs;obtain ⟨R,ro,rc,rfl,⟨n2,hR⟩,hRs,hRm,hRc⟩:=rules_of _ _ g4;refine ⟨⟨x0,I,x2,X,R⟩,io,ic,ko,kc,ro,rc,max n n2,rfl,⟨hI,(dD.of0 hkk).upTo (Nat.le_max_left _ _),fun k r hk=>?_,⟨hIm,hic⟩,⟨hRm,hRc⟩,hss,hRs⟩⟩;obtain ⟨b,off,ko,kc,e,hlt,hD,q0,q1,q2,q3,q4,q5,q6,q7,q8⟩:=hR k r hk;exact ⟨b,off,ko,kc,e,hlt,hD,q0,q1,q2,q3,q4,q5,q6,q7,q8.upTo (Nat.le_max_right _ _)⟩
end
/-! What the law asks -/
theorem apartB_snoc (no x:ByteArray):∀ (l B:List ByteArray),nL no B (l ++ [x])=(nL no B l && (bN x && !(x.toList == no.toList) && !(hasB (B ++ l) x)))
 | [],B=>by rw [List.nil_append,YH,List.append_nil];show (_ && true)=(true && _);rw [Bool.and_true,Bool.true_and]
 | y :: l,B=>by rw [List.cons_append,YH,YH,apartB_snoc no x l (B ++ [y]),List.append_assoc];show _=(_ && (_ && _ && !(hasB (B ++ ([y] ++ l)) x)));simp only [Bool.and_assoc]
open Go.Sort
def ftM:Except Ft2 Md->Value
 | .ok _=>.agg #[.int .i64 0,.int .i64 0,.int .i64 0,.int .i64 0]
 | .error f=>.agg #[.int .i64 f.1,.int .i64 f.2,.int .i64 0,.int .i64 0]
theorem fault9_any (s:ByteArray) (hs:s.size<=4000) (w:World) :
  Calls Tryz.prog 18 #[.string s] w fun e w'=>e=.returned (ftM (yU s))/\Below w.heap.size w w':=by
 have HB1:=aH (show Below w.heap.size w (w.alloc (.cells #[.int .i64 0,.int .i64 0,.int .i64 0,.int .i64 0] 44)) from bA _);have HO1:=aH (Own.fresh w 44 [.int .i64 0,.int .i64 0,.int .i64 0,.int .i64 0]);have HJ:=aH (pparse9_any s hs (w.alloc (.cells #[.int .i64 0,.int .i64 0,.int .i64 0,.int .i64 0] 44)));obtain ⟨B,hB⟩:∃ B,w.heap.size=B:=⟨_,rfl⟩;have HBE:=aH hB;obtain ⟨RES,hRES⟩:∃ r,yU s=r:=⟨_,rfl⟩;rw [hB] at HO1;rw [hRES] at HJ;rw [hRES];clear hs hRES;go_enter Tryz.func18,Tryz.ntmps18;go_upto_region 1 with fail;generalize w.alloc (.cells #[.int .i64 0,.int .i64 0,.int .i64 0,.int .i64 0] 44)=w1 at *;try rw [hB]
 clear hB;go_wp2_with fail;refine HJ.o.mono ?_;rintro e w2 ⟨hE,hb2⟩;have HR3:=aH hb2;clear hb2 HJ
 cases RES with
 | error f =>
  have hE':e=.returned (.tuple #[.agg #[.string ⟨#[]⟩,.slice none 0 0,.bool false,.int .i64 0,.string ⟨#[]⟩,.int .u64 0,.int .u64 0,.int .u64 0,.int .u64 0,.slice none 0 0,.slice none 0 0],.agg #[.int .i64 f.1,.int .i64 f.2,.int .i64 0,.int .i64 0]]):=hE.1;subst hE';have HE:=aH (show ftM (.error f)=.agg #[.int .i64 f.1,.int .i64 f.2,.int .i64 0,.int .i64 0] from rfl);have hbl:Below w2.heap.size w2 ((w2.alloc (.cells #[.string ⟨#[]⟩,.slice none 0 0,.bool false,.int .i64 0,.string ⟨#[]⟩,.int .u64 0,.int .u64 0,.int .u64 0,.int .u64 0,.slice none 0 0,.slice none 0 0] 35)).alloc (.cells #[.int .i64 f.1,.int .i64 f.2,.int .i64 0,.int .i64 0] 44)):=(bA _).alloc (by simp) _;have HR9:=aH (HR3.o.trans (hbl.mono HR3.o.size));have hof:=Own.fresh (w2.alloc (.cells #[.string ⟨#[]⟩,.slice none 0 0,.bool false,.int .i64 0,.string ⟨#[]⟩,.int .u64 0,.int .u64 0,.int .u64 0,.int .u64 0,.slice none 0 0,.slice none 0 0] 35)) 44 [.int .i64 f.1,.int .i64 f.2,.int .i64 0,.int .i64 0];rw [show (w2.alloc (.cells #[.string ⟨#[]⟩,.slice none 0 0,.bool false,.int .i64 0,.string ⟨#[]⟩,.int .u64 0,.int .u64 0,.int .u64 0,.int .u64 0,.slice none 0 0,.slice none 0 0] 35)).heap.size=w2.heap.size + 1 from by simp] at hof;have HOF:=aH hof;clear hbl hE hof;go_upto_region 2 with fail
  skip
  generalize (w2.alloc (.cells #[.string ⟨#[]⟩,.slice none 0 0,.bool false,.int .i64 0,.string ⟨#[]⟩,.int .u64 0,.int .u64 0,.int .u64 0,.int .u64 0,.slice none 0 0,.slice none 0 0] 35)).alloc (.cells #[.int .i64 f.1,.int .i64 f.2,.int .i64 0,.int .i64 0] 44)=w9 at *;have HOR:=aH (HO1.o.under HR9.o HO1.o.lt);have r0:w9.cell? ⟨B,0,none⟩=some (.int .i64 0):=HOR.o.cell 0;have f0:w9.frozen? ⟨B,0,none⟩=false:=HOR.o.thaw 0;have r1:w9.cell? ⟨B,1,none⟩=some (.int .i64 0):=HOR.o.cell 1;have f1:w9.frozen? ⟨B,1,none⟩=false:=HOR.o.thaw 1;have r2:w9.cell? ⟨B,2,none⟩=some (.int .i64 0):=HOR.o.cell 2;have f2:w9.frozen? ⟨B,2,none⟩=false:=HOR.o.thaw 2;have r3:w9.cell? ⟨B,3,none⟩=some (.int .i64 0):=HOR.o.cell 3;have f3:w9.frozen? ⟨B,3,none⟩=false:=HOR.o.thaw 3;have q0:=HOF.o.cell 0;have q1:=HOF.o.cell 1;have q2:=HOF.o.cell 2;have q3:=HOF.o.cell 3;have ql:=HOF.o.lt;have rl:=HOR.o.lt;go_wp2;try simp only [Exit.inBlock,Exit.then]
  have HO5:=((((HOR.o.put 0 (.int .i64 f.1)).put 1 (.int .i64 f.2)).put 2 (.int .i64 0)).put 3 (.int .i64 0));have hbt:=(((((But.refl (fun j=>j=B) w9).setCell (p:=⟨B,0,none⟩) (fun _=>rfl) (.int .i64 f.1)).setCell (p:=⟨B,1,none⟩) (fun _=>rfl) (.int .i64 f.2)).setCell (p:=⟨B,2,none⟩) (fun _=>rfl) (.int .i64 0)).setCell (p:=⟨B,3,none⟩) (fun _=>rfl) (.int .i64 0));have HBZ:=(HB1.o.trans (HR9.o.mono HB1.o.size)).trans (hbt.below (B:=w.heap.size) (Nat.le_trans HB1.o.size HR9.o.size) (fun j e=>by have:=HBE.o;have e:j=B:=e;omega));refine bodyPost_ret (results_cell_row (P:=Tryz.prog) rfl _ _ B 44 _ (0,0) _ rfl HO5 Tryz.underlying44 rfl (by kernel_rfl)) rfl ?_;exact ⟨by first | (rw [HE.o];done) | (rw [HE.o];rfl),HBZ⟩
 | ok m =>
  obtain ⟨io,ic,ko,kc,ro,rc,n,he,-⟩:=hE;have he':e=.returned (.tuple #[.agg #[.string m.nm,.slice io m.im.length ic,.bool m.wet,.int .i64 m.wa.op,.string m.wa.text,.int .u64 m.wa.s0,.int .u64 m.wa.s1,.int .u64 m.wa.s2,.int .u64 m.wa.s3,.slice ko m.wa.kids.length kc,.slice ro m.ru.length rc],.agg #[.int .i64 0,.int .i64 0,.int .i64 0,.int .i64 0]]):=he;subst he';have hE:True:=trivial;have HE:=aH (show ftM (.ok m)=.agg #[.int .i64 0,.int .i64 0,.int .i64 0,.int .i64 0] from rfl);have hbl:Below w2.heap.size w2 ((w2.alloc (.cells #[.string m.nm,.slice io m.im.length ic,.bool m.wet,.int .i64 m.wa.op,.string m.wa.text,.int .u64 m.wa.s0,.int .u64 m.wa.s1,.int .u64 m.wa.s2,.int .u64 m.wa.s3,.slice ko m.wa.kids.length kc,.slice ro m.ru.length rc] 35)).alloc (.cells #[.int .i64 0,.int .i64 0,.int .i64 0,.int .i64 0] 44)):=(bA _).alloc (by simp) _;have HR9:=aH (HR3.o.trans (hbl.mono HR3.o.size));have hof:=Own.fresh (w2.alloc (.cells #[.string m.nm,.slice io m.im.length ic,.bool m.wet,.int .i64 m.wa.op,.string m.wa.text,.int .u64 m.wa.s0,.int .u64 m.wa.s1,.int .u64 m.wa.s2,.int .u64 m.wa.s3,.slice ko m.wa.kids.length kc,.slice ro m.ru.length rc] 35)) 44 [.int .i64 0,.int .i64 0,.int .i64 0,.int .i64 0];rw [show (w2.alloc (.cells #[.string m.nm,.slice io m.im.length ic,.bool m.wet,.int .i64 m.wa.op,.string m.wa.text,.int .u64 m.wa.s0,.int .u64 m.wa.s1,.int .u64 m.wa.s2,.int .u64 m.wa.s3,.slice ko m.wa.kids.length kc,.slice ro m.ru.length rc] 35)).heap.size=w2.heap.size + 1 from by simp] at hof;have HOF:=aH hof;clear hbl hE hof he;go_upto_region 2 with fail
  skip
  generalize (w2.alloc (.cells #[.string m.nm,.slice io m.im.length ic,.bool m.wet,.int .i64 m.wa.op,.string m.wa.text,.int .u64 m.wa.s0,.int .u64 m.wa.s1,.int .u64 m.wa.s2,.int .u64 m.wa.s3,.slice ko m.wa.kids.length kc,.slice ro m.ru.length rc] 35)).alloc (.cells #[.int .i64 0,.int .i64 0,.int .i64 0,.int .i64 0] 44)=w9 at *;have HOR:=aH (HO1.o.under HR9.o HO1.o.lt);have r0:w9.cell? ⟨B,0,none⟩=some (.int .i64 0):=HOR.o.cell 0;have f0:w9.frozen? ⟨B,0,none⟩=false:=HOR.o.thaw 0;have r1:w9.cell? ⟨B,1,none⟩=some (.int .i64 0):=HOR.o.cell 1;have f1:w9.frozen? ⟨B,1,none⟩=false:=HOR.o.thaw 1;have r2:w9.cell? ⟨B,2,none⟩=some (.int .i64 0):=HOR.o.cell 2;have f2:w9.frozen? ⟨B,2,none⟩=false:=HOR.o.thaw 2;have r3:w9.cell? ⟨B,3,none⟩=some (.int .i64 0):=HOR.o.cell 3;have f3:w9.frozen? ⟨B,3,none⟩=false:=HOR.o.thaw 3;have q0:=HOF.o.cell 0;have q1:=HOF.o.cell 1;have q2:=HOF.o.cell 2;have q3:=HOF.o.cell 3;have ql:=HOF.o.lt;have rl:=HOR.o.lt;go_wp2;try simp only [Exit.inBlock,Exit.then]
  have HO5:=((((HOR.o.put 0 (.int .i64 0)).put 1 (.int .i64 0)).put 2 (.int .i64 0)).put 3 (.int .i64 0));have hbt:=(((((But.refl (fun j=>j=B) w9).setCell (p:=⟨B,0,none⟩) (fun _=>rfl) (.int .i64 0)).setCell (p:=⟨B,1,none⟩) (fun _=>rfl) (.int .i64 0)).setCell (p:=⟨B,2,none⟩) (fun _=>rfl) (.int .i64 0)).setCell (p:=⟨B,3,none⟩) (fun _=>rfl) (.int .i64 0));have HBZ:=(HB1.o.trans (HR9.o.mono HB1.o.size)).trans (hbt.below (B:=w.heap.size) (Nat.le_trans HB1.o.size HR9.o.size) (fun j e=>by have:=HBE.o;have e:j=B:=e;omega));refine bodyPost_ret (results_cell_row (P:=Tryz.prog) rfl _ _ B 44 _ (0,0) _ rfl HO5 Tryz.underlying44 rfl (by kernel_rfl)) rfl ?_;exact ⟨by first | (rw [HE.o];done) | (rw [HE.o];rfl),HBZ⟩
structure Smd (m:Md):Prop where
 nm:m.nm.size<=100000
 im:∀ x ∈ m.im,x.size<=100000
 ni:(m.im.length:Int)<=1000
 nr:(m.ru.length:Int)<=1000
 rn:∀ r ∈ m.ru,r.1.size<=100000
 wa:Okx m.wa
 wg:grt 17 m.wa=false
 ru:∀ r ∈ m.ru,Okx r.2
def zsM (m:Md):Bool:=iE 17 m.wa ex0
theorem grt_ex0:grt 17 ex0=false:=by decide +kernel
theorem dright9 {m:Md} (h:Smd m) {D n:Nat} {io:Option Addr} {ic:Nat} {ko:Option Addr} {kc:Nat} {ro:Option Addr} {rc:Nat} (hic:m.im.length<=ic) (hrc:m.ru.length<=rc) {w:World} (hN:gI w io m.im) (hE:dD w D n ko m.wa.kids) (hR:sN w D n ro m.ru) (hmx:Mx w) :
  Calls Tryz.prog 12 #[.agg #[.string m.nm,.slice io m.im.length ic,.bool m.wet,.int .i64 m.wa.op,.string m.wa.text,.int .u64 m.wa.s0,.int .u64 m.wa.s1,.int .u64 m.wa.s2,.int .u64 m.wa.s3,.slice ko m.wa.kids.length kc,.slice ro m.ru.length rc]] w fun e w'=>e=.returned (.bool (rgtG m (zsM m)))/\Below w.heap.size w w' :=
 dright_gen m (zsM m) D n io ic ko kc ro rc h.ni h.nr hic hrc h.nm h.im h.rn h.wa h.ru w hN (aV.fit h.wa.2 hE.hask) hR hmx
  fun W hb=>vO 17 m.wa ex0 ko none kc 0 W h.wg grt_ex0 (aV.below hb (aV.cut h.wg hE.hask)) (aV.nil _ _ _)
theorem hug_smd {m:Md} (h:hugB m=false) (hw:∀ i,bW i m.wa) (hr:∀ r ∈ m.ru,∀ i,bW i r.2):Smd m:=by obtain ⟨h1,h2,h3,h4,h5,h6⟩:=hug_out h;exact ⟨by omega,fun x hx=>by have:=h5 x hx;omega,by omega,by omega,fun r hx=>by have:=(h6 r hx).1;omega,grt_okx h3 hw,h3,fun r hx=>grt_okx (h6 r hx).2 (hr r hx)⟩
def tamB:Nat->Ex->Bool
 | 0,_=>false
 | n + 1,x=>decide (x.kids.length<=1000) && decide (x.text.size<=60) && x.kids.all (tamB n)
theorem tamB_ok:∀ (n:Nat) (x:Ex),tamB n x=true->XI n x
 | 0,x,h=>by cases h
 | n + 1,x,h=>by unfold tamB at h;rw [Bool.and_eq_true,Bool.and_eq_true,decide_eq_true_eq,decide_eq_true_eq,List.all_eq_true] at h;exact ⟨h.1.1,h.1.2,fun k y hy=>tamB_ok n y (h.2 y (aM hy))⟩
def rmB:Nat->Ex->Bool
 | 0,_=>true
 | n + 1,x=>decide ((pW (prX n) x).length<=70368744177664) && x.kids.all (fun y=>decide ((prX n y).length<=70368744177664) && rmB n y)
theorem rmB_ok:∀ (n:Nat) (x:Ex),rmB n x=true->Rmx n x
 | 0,x,_=>trivial
 | n + 1,x,h=>by unfold rmB at h;rw [Bool.and_eq_true,decide_eq_true_eq,List.all_eq_true] at h;refine ⟨h.1,fun k y hy=>?_⟩;have:=h.2 y (aM hy);rw [Bool.and_eq_true,decide_eq_true_eq] at this;exact ⟨this.1,rmB_ok n y this.2⟩
def s9:ByteArray:=⟨#[109,111,100,117,108,101,32,109,59,10,105,109,112,111,114,116,32,110,59,10,119,97,116,101,114,32,61,32,34,35,34,59,10,97,32,61,32,126,98,126,59,10,98,32,61,32,34,120,34,32,110,58,58,99,59,10]⟩
def m9:Md:=match yU s9 with | .ok m=>m | .error _=>md0
theorem m9_ok:yU s9=.ok m9:=by kernel_rfl
theorem m9_nm:m9.nm=⟨#[109]⟩:=by kernel_rfl
theorem m9_im:m9.im=[⟨#[110]⟩]:=by kernel_rfl
theorem m9_wet:m9.wet=true:=by kernel_rfl
theorem m9_wt:m9.wa.text=⟨#[35]⟩:=by kernel_rfl
theorem m9_ru:m9.ru.length=2:=by kernel_rfl
theorem m9_r0:(m9.ru[0]?).map (fun r=>r.2.op)=some 13:=by kernel_rfl
theorem m9_pr:(⟨(prM m9).toArray⟩:ByteArray)=s9:=by kernel_rfl
theorem m9_rg:rgtG m9 (zsM m9)=true:=by kernel_rfl
theorem m9_grt:m9.ru.all (fun r=>!(grt 17 r.2) && tamB 53 r.2 && txs 100000 53 r.2 && rmB 53 r.2 && decide ((prX 53 r.2).length<=500000) && decide (r.1.size<=100000))=true:=by kernel_rfl
theorem m9_grw:(!(grt 17 m9.wa) && tamB 53 m9.wa && txs 100000 53 m9.wa && rmB 53 m9.wa && decide ((prX 53 m9.wa).length<=500000))=true:=by kernel_rfl
theorem m9_all:(prM m9).length<=1000000:=by
 have h:decide ((prM m9).length<=1000000)=true:=by kernel_rfl
 exact of_decide_eq_true h
theorem txs_sets {T:Nat}:∀ (n:Nat) (x:Ex),txs T n x=true->bW n x
 | 0,x,_=>trivial
 | n + 1,x,h=>by unfold txs Oy at h;rw [Bool.and_eq_true,Bool.and_eq_true,Bool.and_eq_true,Bool.and_eq_true,Bool.and_eq_true,decide_eq_true_eq,decide_eq_true_eq,decide_eq_true_eq,decide_eq_true_eq,decide_eq_true_eq,List.all_eq_true] at h;obtain ⟨⟨h0,⟨⟨ha,hb⟩,hc⟩,hd⟩,hk⟩:=h;unfold bW P64;exact ⟨⟨by omega,by omega,by omega,by omega⟩,fun k y hy=>txs_sets n y (hk y (aM hy))⟩
theorem prok_of {x:Ex} (h1:tamB 53 x=true) (h2:txs 100000 53 x=true) (h3:rmB 53 x=true):Ov 53 x:=⟨tamB_ok _ _ h1,txs_sets 53 x h2,rmB_ok _ _ h3⟩
theorem sets_all:∀ (n i:Nat) (x:Ex),grt n x=false->bW n x->bW i x
 | 0,i,x,h,_=>by cases h
 | n + 1,0,x,h,_=>trivial
 | n + 1,i + 1,x,h,hs=>⟨hs.1,fun k y hy=>sets_all n i y (mI h hy) (hs.2 k y hy)⟩
theorem sets_dn:∀ (n:Nat) (x:Ex),bW (n + 1) x->bW n x
 | 0,x,_=>trivial
 | n + 1,x,h=>⟨h.1,fun k y hy=>sets_dn n y (h.2 k y hy)⟩
theorem sets_17 {x:Ex} (h:bW 53 x):bW 17 x:=by
 have q:∀ k,bW (17 + k) x->bW 17 x:=fun k=>by
  induction k with
  | zero=>exact id
  | succ k ih=>exact fun h=>ih (sets_dn _ _ h)
 exact q 36 h
theorem m9_okw:grt 17 m9.wa=false/\Ov 53 m9.wa/\(prX 53 m9.wa).length<=500000:=by have hw:=m9_grw;simp only [Bool.and_eq_true,Bool.not_eq_true',decide_eq_true_eq] at hw;obtain ⟨⟨⟨⟨w0,w1⟩,w2⟩,w3⟩,w4⟩:=hw;exact ⟨w0,prok_of w1 w2 w3,w4⟩
theorem m9_okr:∀ r ∈ m9.ru,grt 17 r.2=false/\Ov 53 r.2/\(prX 53 r.2).length<=500000/\r.1.size<=100000:=fun r hx=>by have hr:=m9_grt;simp only [List.all_eq_true,Bool.and_eq_true,Bool.not_eq_true',decide_eq_true_eq] at hr;obtain ⟨⟨⟨⟨⟨r0,r1⟩,r2⟩,r3⟩,r4⟩,r5⟩:=hr r hx;exact ⟨r0,prok_of r1 r2 r3,r4,r5⟩
theorem okx_of {x:Ex} (h:grt 17 x=false) (hp:Ov 53 x):Okx x:=grt_okx h fun i=>sets_all 17 i x h (sets_17 hp.sets)
theorem m9_smd:Smd m9:=by refine ⟨by rw [m9_nm];decide,fun x hx=>?_,by rw [m9_im];decide,by rw [m9_ru];decide,fun r hr=>(m9_okr r hr).2.2.2,okx_of m9_okw.1 m9_okw.2.1,m9_okw.1,fun r hr=>okx_of (m9_okr r hr).1 (m9_okr r hr).2.1⟩;rw [m9_im,List.mem_singleton] at hx;subst hx;decide
theorem m9_pok:PmOk m9:=⟨m9_smd.nm,m9_smd.im,by rw [m9_im];decide,by rw [m9_ru];decide,fun _=>m9_okw.2,fun r hx=>⟨(m9_okr r hx).2.2.2,(m9_okr r hx).2.1,(m9_okr r hx).2.2.1⟩,m9_all⟩
theorem m9_fit:∀ r ∈ m9.ru,fit 90001 53 r.2=true:=fun r hr=>(m9_smd.ru r hr).2
theorem md0_smd:Smd md0:=⟨by decide,fun x hx=>absurd hx List.not_mem_nil,by decide,by decide,fun x hx=>absurd hx List.not_mem_nil,Okx.zero,grt_ex0,fun x hx=>absurd hx List.not_mem_nil⟩
theorem md0_rg:rgtG md0 (zsM md0)=false:=by kernel_rfl
@[go_sem 2000] theorem mbuild9 (w:World):(Instr.build 35 #[]).run Tryz.prog w=.ok (.agg #[.string ⟨#[]⟩,.slice none 0 0,.bool false,.int .i64 0,.string ⟨#[]⟩,.int .u64 0,.int .u64 0,.int .u64 0,.int .u64 0,.slice none 0 0,.slice none 0 0]) w:=run_build w _ _ _ (by kernel_rfl)
@[go_sem 2000] theorem fbuild9a (w:World):(Instr.build 44 #[]).run Tryz.prog w=.ok (.agg #[.int .i64 0,.int .i64 0,.int .i64 0,.int .i64 0]) w:=run_build w _ _ _ (by kernel_rfl)
@[go_sem 2000] theorem fbuild9b (a:Int) (w:World):(Instr.build 44 #[(0,.int .i64 a)]).run Tryz.prog w=.ok (.agg #[.int .i64 a,.int .i64 0,.int .i64 0,.int .i64 0]) w:=run_build w _ _ _ (by kernel_rfl)
@[go_sem 2000] theorem fbuild9c (a b:Int) (w:World):(Instr.build 44 #[(0,.int .i64 a),(1,.int .i64 b)]).run Tryz.prog w=.ok (.agg #[.int .i64 a,.int .i64 b,.int .i64 0,.int .i64 0]) w:=run_build w _ _ _ (by kernel_rfl)
theorem ex9_0:ftM (yU ⟨#[109,111,100,117,108,101,32,109,59,32,97,32,61,32,98,59,32,97,32,61,32,98,59]⟩)=.agg #[.int .i64 4,.int .i64 17,.int .i64 0,.int .i64 0]:=by kernel_rfl
theorem ex9_1:ftM (yU ⟨#[109,111,100,117,108,101,32,109,59,32,105,109,112,111,114,116,32,109,59]⟩)=.agg #[.int .i64 4,.int .i64 17,.int .i64 0,.int .i64 0]:=by kernel_rfl
theorem ex9_2:ftM (yU ⟨#[]⟩)=.agg #[.int .i64 2,.int .i64 0,.int .i64 0,.int .i64 0]:=by kernel_rfl
theorem ex9_3:ftM (yU ⟨#[109,111,100,117,108,101,32,109,59,32,97,32,61,32,59]⟩)=.agg #[.int .i64 2,.int .i64 14,.int .i64 0,.int .i64 0]:=by kernel_rfl
theorem ex9_4:ftM (yU ⟨#[109,111,100,117,108,101,32,109,59,32,97,32,61,32,98]⟩)=.agg #[.int .i64 2,.int .i64 15,.int .i64 0,.int .i64 0]:=by kernel_rfl
theorem ex9_5:ftM (yU ⟨#[109,111,100,117,108,101,32,119,97,116,101,114,59]⟩)=.agg #[.int .i64 2,.int .i64 7,.int .i64 0,.int .i64 0]:=by kernel_rfl
theorem ex9_6:ftM (yU ⟨#[109,111,100,117,108,101,32,109,59]⟩)=.agg #[.int .i64 0,.int .i64 0,.int .i64 0,.int .i64 0]:=by kernel_rfl
theorem wpList_of_quiet9 {P:Program} {ops:Array Oper} {C:World->Prop} {QA:Act->Prop} {Q:Exit->Act->World->Prop} (hQ:∀ a w,C w->QA a->Q .normal a w) :
  ∀ (l:List Oper) (a:Act) (w:World),C w->wpQuiet P ops C QA l a->wpList P ops Q l a w
 | [],a,w,hC,h=>hQ a w hC h
 | o :: rest,a,w,hC,h=>by
  unfold wpQuiet at h;unfold wpList;split
  ·
   rename_i hw;rw [if_pos hw] at h
   first
    | exact Oper.wp_of_quiet hC (fun a' w' hC' h'=>wpList_of_quiet9 hQ rest a' w' hC' h') h
    | exact .inl (Oper.wp_of_quiet hC (fun a' w' hC' h'=>wpList_of_quiet9 hQ rest a' w' hC' h') h)
  · rename_i hw;rw [if_neg hw] at h;exact wpList_of_quiet9 hQ rest _ w hC h
theorem wp_region_plain_below9 {P:Program} {id:Nat} {Q:Exit->Act->World->Prop} {a:Act} {w:World} {l:List Oper}
  (h:wpQuiet P l.toArray (fun w'=>∃ p:Regrown,w'=grow (redrawn w p.d) p.os) (fun a'=>∀ w',(∃ p:Regrown,w'=grow (redrawn w p.d) p.os)->Q .normal a' w') l a):(Code.region id l.toArray false).wp P Q a w :=
 wp_region_lit (wpList_of_quiet9 (fun _ w' hC hq=>hq w' hC) l a w ⟨⟨w.drawn,#[]⟩,by rw [grow_empty];rfl⟩ h)
theorem awake9_any (w:World) (hmx:Mx w):Calls Tryz.prog 13 #[] w fun e w'=>e=.returned (.bool true)/\Below w.heap.size w w':=by
 have HX:=aH hmx;obtain ⟨wop,hwop⟩:∃ z,m9.wa.op=z:=⟨_,rfl⟩;obtain ⟨ws0,hws0⟩:∃ z,m9.wa.s0=z:=⟨_,rfl⟩;obtain ⟨ws1,hws1⟩:∃ z,m9.wa.s1=z:=⟨_,rfl⟩;obtain ⟨ws2,hws2⟩:∃ z,m9.wa.s2=z:=⟨_,rfl⟩;obtain ⟨ws3,hws3⟩:∃ z,m9.wa.s3=z:=⟨_,rfl⟩;obtain ⟨nk,hnk⟩:∃ z,m9.wa.kids.length=z:=⟨_,rfl⟩;have hil:m9.im.length=1:=by rw [m9_im];rfl
 have HP:=aH (fun W=>show Calls Tryz.prog 15 #[.string ⟨#[109,111,100,117,108,101,32,109,59,10,105,109,112,111,114,116,32,110,59,10,119,97,116,101,114,32,61,32,34,35,34,59,10,97,32,61,32,126,98,126,59,10,98,32,61,32,34,120,34,32,110,58,58,99,59,10]⟩] W (fun e w'=>(∃ io ic ko kc ro rc n,e=.returned (.tuple #[.agg #[.string ⟨#[109]⟩,.slice io 1 ic,.bool true,.int .i64 wop,.string ⟨#[35]⟩,.int .u64 ws0,.int .u64 ws1,.int .u64 ws2,.int .u64 ws3,.slice ko nk kc,.slice ro 2 rc],.agg #[.int .i64 0,.int .i64 0,.int .i64 0,.int .i64 0]])/\1<=ic/\2<=rc/\gI w' io m9.im/\dD w' 0 n ko m9.wa.kids/\sN w' 0 n ro m9.ru)/\Below W.heap.size W w') from by
  have q:=pparse9_any s9 (by decide) W;rw [m9_ok] at q;refine Calls.mono q fun e w' ⟨h1,h2⟩=>⟨?_,h2⟩;obtain ⟨io,ic,ko,kc,ro,rc,n,he,hi,hr,hN,hE,hR⟩:=h1;rw [m9_nm,m9_wet,m9_wt,m9_ru,hil,hwop,hws0,hws1,hws2,hws3,hnk] at he;rw [hil] at hi;rw [m9_ru] at hr
  exact ⟨io,ic,ko,kc,ro,rc,n,he,hi,hr,fun k x hx=>by obtain ⟨b,off,e,hl,_,c⟩:=hN k x hx;exact ⟨b,off,e,hl,c⟩,dD.low (Nat.zero_le _) hE,(mR.of hR).to (fun _ _=>Nat.zero_le _)⟩)
 have HRG:=aH (fun (io:Option Addr) (ic:Nat) (ko:Option Addr) (kc:Nat) (ro:Option Addr) (rc n:Nat) W (hi:1<=ic) (hr:2<=rc) (hN:gI W io m9.im) (hE:dD W 0 n ko m9.wa.kids) (hR:sN W 0 n ro m9.ru) (hm:Mx W)=>show Calls Tryz.prog 12 #[.agg #[.string ⟨#[109]⟩,.slice io 1 ic,.bool true,.int .i64 wop,.string ⟨#[35]⟩,.int .u64 ws0,.int .u64 ws1,.int .u64 ws2,.int .u64 ws3,.slice ko nk kc,.slice ro 2 rc]] W (fun e w'=>e=.returned (.bool true)/\Below W.heap.size W w') from by
  have q:=dright9 m9_smd (ic:=ic) (rc:=rc) (kc:=kc) (by rw [hil];exact hi) (by rw [m9_ru];exact hr) hN hE hR hm;rw [m9_nm,m9_wet,m9_wt,m9_ru,hil,hwop,hws0,hws1,hws2,hws3,hnk,m9_rg] at q
  exact q)
 have HPR:=aH (fun (io:Option Addr) (ic:Nat) (ko:Option Addr) (kc:Nat) (ro:Option Addr) (rc n:Nat) W (hN:gI W io m9.im) (hE:dD W 0 n ko m9.wa.kids) (hR:sN W 0 n ro m9.ru)=>show Calls Tryz.prog 17 #[.agg #[.string ⟨#[109]⟩,.slice io 1 ic,.bool true,.int .i64 wop,.string ⟨#[35]⟩,.int .u64 ws0,.int .u64 ws1,.int .u64 ws2,.int .u64 ws3,.slice ko nk kc,.slice ro 2 rc]] W (fun e w'=>e=.returned (.string ⟨#[109,111,100,117,108,101,32,109,59,10,105,109,112,111,114,116,32,110,59,10,119,97,116,101,114,32,61,32,34,35,34,59,10,97,32,61,32,126,98,126,59,10,98,32,61,32,34,120,34,32,110,58,58,99,59,10]⟩)/\Below W.heap.size W w') from by
  have q:=print9_any m9 0 n io ic ko kc ro rc m9_pok W hN (aV.fit m9_smd.wa.2 hE.hask) hR m9_fit;rw [m9_nm,m9_wet,m9_wt,m9_ru,hil,hwop,hws0,hws1,hws2,hws3,hnk,m9_pr] at q
  exact q)
 clear hwop hws0 hws1 hws2 hws3 hnk hil hmx;have HB0:=aH (Below.refl w.heap.size w);go_enter Tryz.func13,Tryz.ntmps13;go_wp2_with fail;refine (HP.o _).mono ?_;rintro e w1 ⟨⟨io,ic,ko,kc,ro,rc,n,rfl,hi,hr,hN,hE,hR⟩,hb1⟩;have HB1:=aH (aD HB0.o hb1);have hbl:Below w1.heap.size w1 ((w1.alloc (.cells #[.string ⟨#[109]⟩,.slice io 1 ic,.bool true,.int .i64 wop,.string ⟨#[35]⟩,.int .u64 ws0,.int .u64 ws1,.int .u64 ws2,.int .u64 ws3,.slice ko nk kc,.slice ro 2 rc] 35)).alloc (.cells #[.int .i64 0,.int .i64 0,.int .i64 0,.int .i64 0] 44)):=(bA _).alloc (by simp) _;have HOM:=aH ((Own.fresh w1 35 [.string ⟨#[109]⟩,.slice io 1 ic,.bool true,.int .i64 wop,.string ⟨#[35]⟩,.int .u64 ws0,.int .u64 ws1,.int .u64 ws2,.int .u64 ws3,.slice ko nk kc,.slice ro 2 rc]).on_alloc (.cells #[.int .i64 0,.int .i64 0,.int .i64 0,.int .i64 0] 44));have hof:=Own.fresh (w1.alloc (.cells #[.string ⟨#[109]⟩,.slice io 1 ic,.bool true,.int .i64 wop,.string ⟨#[35]⟩,.int .u64 ws0,.int .u64 ws1,.int .u64 ws2,.int .u64 ws3,.slice ko nk kc,.slice ro 2 rc] 35)) 44 [.int .i64 0,.int .i64 0,.int .i64 0,.int .i64 0];rw [show (w1.alloc (.cells #[.string ⟨#[109]⟩,.slice io 1 ic,.bool true,.int .i64 wop,.string ⟨#[35]⟩,.int .u64 ws0,.int .u64 ws1,.int .u64 ws2,.int .u64 ws3,.slice ko nk kc,.slice ro 2 rc] 35)).heap.size=w1.heap.size + 1 from by simp] at hof;have HOF:=aH hof;have HB3:=aH (HB1.o.trans (hbl.mono HB1.o.size));have HN3:=aH (hN.below hbl);have HE3:=aH (dD.but (But.of_below (S:=fun _=>False) hbl) (fun _ h=>h.elim) hE);have HR3:=aH (hR.but (But.of_below (S:=fun _=>False) hbl) (fun _ h=>h.elim));have HI:=aH (And.intro hi hr);have HX3:=aH (HX.o.below HB3.o);clear hof hbl hi hr hN hE hR hb1 HB0 HB1 HP HX;go_upto_region 3 with fail;have e9:(w1.alloc (.cells #[.string ⟨#[109]⟩,.slice io 1 ic,.bool true,.int .i64 wop,.string ⟨#[35]⟩,.int .u64 ws0,.int .u64 ws1,.int .u64 ws2,.int .u64 ws3,.slice ko nk kc,.slice ro 2 rc] 35)).heap.size=w1.heap.size + 1:=by simp
 try rw [e9]
 clear e9;generalize World.alloc (World.alloc w1 _) _=w3 at *;obtain ⟨X,hX⟩:∃ X,w1.heap.size=X:=⟨_,rfl⟩;rw [hX] at HOM HOF;try rw [hX]
 clear hX;obtain ⟨r0,hr0,hop⟩:∃ r,m9.ru[0]?=some r/\r.2.op=13:=by
  have q:=m9_r0
  cases h:m9.ru[0]? with
  | none=>rw [h] at q;cases q
  | some x=>rw [h] at q;simp at q;exact ⟨x,rfl,q⟩
 obtain ⟨rb,roff,yo,yc,hro,hrl,-,-,d1,-⟩:=HR3.o 0 r0 hr0;subst hro;obtain ⟨ib,ioff,hio,hil,i0⟩:=HN3.o 0 ⟨#[110]⟩ (by rw [m9_im];rfl);subst hio;rw [hop] at d1;simp only [Nat.zero_mul,Nat.add_zero] at d1 i0;clear hr0 hop;obtain ⟨m0,m1,m2,m3,m4,m5,m6,m7,m8,m9',mA⟩:=HOM.o.elev;have ml:=HOM.o.lt;have f0:w3.cell? ⟨X + 1,0,none⟩=some (.int .i64 0):=HOF.o.cell 0;have f1:w3.cell? ⟨X + 1,1,none⟩=some (.int .i64 0):=HOF.o.cell 1;have f2:w3.cell? ⟨X + 1,2,none⟩=some (.int .i64 0):=HOF.o.cell 2;have f3:w3.cell? ⟨X + 1,3,none⟩=some (.int .i64 0):=HOF.o.cell 3;have fl:=HOF.o.lt;have CP:=aH (fun (d:Nat) (os:Array Obj)=>HPR.o (some ⟨ib,ioff,none⟩) ic ko kc (some ⟨rb,roff,none⟩) rc n (grow (redrawn w3 d) os) (HN3.o.below (below_regrown w3 d os)) (dD.but (But.of_below (S:=fun _=>False) (below_regrown w3 d os)) (fun _ h=>h.elim) HE3.o) (HR3.o.but (But.of_below (S:=fun _=>False) (below_regrown w3 d os)) (fun _ h=>h.elim)));have CR:=aH (fun (d:Nat) (os:Array Obj)=>HRG.o (some ⟨ib,ioff,none⟩) ic ko kc (some ⟨rb,roff,none⟩) rc n (grow (redrawn w3 d) os) HI.o.1 HI.o.2 (HN3.o.below (below_regrown w3 d os)) (dD.but (But.of_below (S:=fun _=>False) (below_regrown w3 d os)) (fun _ h=>h.elim) HE3.o) (HR3.o.but (But.of_below (S:=fun _=>False) (below_regrown w3 d os)) (fun _ h=>h.elim)) (HX3.o.below (below_regrown w3 d os)))
 have CZ:=aH (fun (d:Nat) (os:Array Obj)=>show Calls Tryz.prog 12 #[.agg #[.string ⟨#[]⟩,.slice none 0 0,.bool false,.int .i64 0,.string ⟨#[]⟩,.int .u64 0,.int .u64 0,.int .u64 0,.int .u64 0,.slice none 0 0,.slice none 0 0]] (grow (redrawn w3 d) os) (fun e w'=>e=.returned (.bool false)/\Below (grow (redrawn w3 d) os).heap.size (grow (redrawn w3 d) os) w') from by
  have q:=dright9 md0_smd (io:=none) (ic:=0) (ko:=none) (kc:=0) (ro:=none) (rc:=0) (D:=0) (n:=0) (Nat.le_refl _) (Nat.le_refl _) (fun k x hx=>by simp [md0] at hx) (show dD _ 0 0 none [] from rfl) (fun k x hx=>by simp [md0] at hx) (HX3.o.below (below_regrown w3 d os));rw [md0_rg] at q
  exact q)
 have C0:=aH (fun (d:Nat) (os:Array Obj)=>show Calls Tryz.prog 18 #[.string ⟨#[109,111,100,117,108,101,32,109,59,32,97,32,61,32,98,59,32,97,32,61,32,98,59]⟩] (grow (redrawn w3 d) os) (fun e w'=>e=.returned (.agg #[.int .i64 4,.int .i64 17,.int .i64 0,.int .i64 0])/\Below (grow (redrawn w3 d) os).heap.size (grow (redrawn w3 d) os) w') from by
  have q:=fault9_any ⟨#[109,111,100,117,108,101,32,109,59,32,97,32,61,32,98,59,32,97,32,61,32,98,59]⟩ (by decide) (grow (redrawn w3 d) os);rw [ex9_0] at q
  exact q)
 have C1:=aH (fun (d:Nat) (os:Array Obj)=>show Calls Tryz.prog 18 #[.string ⟨#[109,111,100,117,108,101,32,109,59,32,105,109,112,111,114,116,32,109,59]⟩] (grow (redrawn w3 d) os) (fun e w'=>e=.returned (.agg #[.int .i64 4,.int .i64 17,.int .i64 0,.int .i64 0])/\Below (grow (redrawn w3 d) os).heap.size (grow (redrawn w3 d) os) w') from by
  have q:=fault9_any ⟨#[109,111,100,117,108,101,32,109,59,32,105,109,112,111,114,116,32,109,59]⟩ (by decide) (grow (redrawn w3 d) os);rw [ex9_1] at q
  exact q)
 have C2:=aH (fun (d:Nat) (os:Array Obj)=>show Calls Tryz.prog 18 #[.string ⟨#[]⟩] (grow (redrawn w3 d) os) (fun e w'=>e=.returned (.agg #[.int .i64 2,.int .i64 0,.int .i64 0,.int .i64 0])/\Below (grow (redrawn w3 d) os).heap.size (grow (redrawn w3 d) os) w') from by
  have q:=fault9_any ⟨#[]⟩ (by decide) (grow (redrawn w3 d) os);rw [ex9_2] at q
  exact q)
 have C3:=aH (fun (d:Nat) (os:Array Obj)=>show Calls Tryz.prog 18 #[.string ⟨#[109,111,100,117,108,101,32,109,59,32,97,32,61,32,59]⟩] (grow (redrawn w3 d) os) (fun e w'=>e=.returned (.agg #[.int .i64 2,.int .i64 14,.int .i64 0,.int .i64 0])/\Below (grow (redrawn w3 d) os).heap.size (grow (redrawn w3 d) os) w') from by
  have q:=fault9_any ⟨#[109,111,100,117,108,101,32,109,59,32,97,32,61,32,59]⟩ (by decide) (grow (redrawn w3 d) os);rw [ex9_3] at q
  exact q)
 have C4:=aH (fun (d:Nat) (os:Array Obj)=>show Calls Tryz.prog 18 #[.string ⟨#[109,111,100,117,108,101,32,109,59,32,97,32,61,32,98]⟩] (grow (redrawn w3 d) os) (fun e w'=>e=.returned (.agg #[.int .i64 2,.int .i64 15,.int .i64 0,.int .i64 0])/\Below (grow (redrawn w3 d) os).heap.size (grow (redrawn w3 d) os) w') from by
  have q:=fault9_any ⟨#[109,111,100,117,108,101,32,109,59,32,97,32,61,32,98]⟩ (by decide) (grow (redrawn w3 d) os);rw [ex9_4] at q
  exact q)
 have C5:=aH (fun (d:Nat) (os:Array Obj)=>show Calls Tryz.prog 18 #[.string ⟨#[109,111,100,117,108,101,32,119,97,116,101,114,59]⟩] (grow (redrawn w3 d) os) (fun e w'=>e=.returned (.agg #[.int .i64 2,.int .i64 7,.int .i64 0,.int .i64 0])/\Below (grow (redrawn w3 d) os).heap.size (grow (redrawn w3 d) os) w') from by
  have q:=fault9_any ⟨#[109,111,100,117,108,101,32,119,97,116,101,114,59]⟩ (by decide) (grow (redrawn w3 d) os);rw [ex9_5] at q
  exact q)
 have C6:=aH (fun (d:Nat) (os:Array Obj)=>show Calls Tryz.prog 18 #[.string ⟨#[109,111,100,117,108,101,32,109,59]⟩] (grow (redrawn w3 d) os) (fun e w'=>e=.returned (.agg #[.int .i64 0,.int .i64 0,.int .i64 0,.int .i64 0])/\Below (grow (redrawn w3 d) os).heap.size (grow (redrawn w3 d) os) w') from by
  have q:=fault9_any ⟨#[109,111,100,117,108,101,32,109,59]⟩ (by decide) (grow (redrawn w3 d) os);rw [ex9_6] at q
  exact q)
 clear HPR HRG HN3 HE3 HR3 HX3 HI HOM HOF;go_upto_region 5 with fail;try simp only [List.append_eq,List.cons_append,List.nil_append]
 have rm0:=cell_regrown m0;have rm1:=cell_regrown m1;have rm2:=cell_regrown m2;have rm3:=cell_regrown m3;have rm4:=cell_regrown m4;have rm5:=cell_regrown m5;have rm6:=cell_regrown m6;have rm7:=cell_regrown m7;have rm8:=cell_regrown m8;have rm9':=cell_regrown m9';have rmA:=cell_regrown mA;have rf0:=cell_regrown f0;have rf1:=cell_regrown f1;have rf2:=cell_regrown f2;have rf3:=cell_regrown f3;have rd1:=cell_regrown d1;have ri0:=cell_regrown i0;refine wp_region_plain_below9 ?_
 repeat (go_big_quiet_step (first
  | (go_at_call 17;with_reducible exact Calls.regrown_of (CP.o _ _))
  | (go_at_call 12;with_reducible exact Calls.regrown_of (CR.o _ _))
  | (go_at_call 12;with_reducible exact Calls.regrown_of (CZ.o _ _))
  | (go_at_call 18;with_reducible exact Calls.regrown_of (C0.o _ _))
  | (go_at_call 18;with_reducible exact Calls.regrown_of (C1.o _ _))
  | (go_at_call 18;with_reducible exact Calls.regrown_of (C2.o _ _))
  | (go_at_call 18;with_reducible exact Calls.regrown_of (C3.o _ _))
  | (go_at_call 18;with_reducible exact Calls.regrown_of (C4.o _ _))
  | (go_at_call 18;with_reducible exact Calls.regrown_of (C5.o _ _))
  | (go_at_call 18;with_reducible exact Calls.regrown_of (C6.o _ _))))
 refine wpQuiet_nil ?_;intro _ hw';obtain ⟨⟨dq,osq⟩,hw''⟩:=hw';subst hw'';go_wp2;go_ret;exact ⟨rfl,aD HB3.o (below_regrown _ _ _)⟩
end Go.Proofs.YthkdnehgamefiaaGreat
