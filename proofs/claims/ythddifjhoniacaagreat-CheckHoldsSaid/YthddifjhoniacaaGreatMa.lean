import Derived.Test.YthddifjhoniacaaGreatGc
import Derived.Test.YthddifjhoniacaaGreatIj
namespace Go.Proofs.YthddifjhoniacaaGreat
set_option linter.unusedVariables false
set_option maxHeartbeats 9600000
set_option maxRecDepth 1000000
open Go.RowKit Go.Sort
def bT:List Int->Int->List Int
 | [],n=>[n]
 | x :: r,n=>if x < n then x :: bT r n else if x=n then x :: r else n :: x :: r
theorem WR:∀ (L:List Int) (n:Int) (k:Nat),k<=L.length->(∀ i,i < k->L.getD i 0 < n)->(k < L.length->¬ L.getD k 0 < n)->((k < L.length/\L.getD k 0=n)->bT L n=L)/\(¬ (k < L.length/\L.getD k 0=n)->bT L n=L.take k ++ n :: L.drop k)
 | [],n,k,hk,h1,h2=>by
  have hk:k=0:=by simpa using hk
  subst hk;exact ⟨fun h=>absurd h.1 (Nat.not_lt_zero _),fun _=>rfl⟩
 | x :: r,n,0,hk,h1,h2=>by
  have hx:¬ x < n:=h2 (by simp);unfold bT;rw [if_neg hx];constructor
  · rintro ⟨_,e⟩;have e:x=n:=e;rw [if_pos e]
  · intro hno;rw [if_neg (show ¬ x=n from fun e=>hno ⟨by simp,e⟩)];rfl
 | x :: r,n,k + 1,hk,h1,h2=>by
  have hx:x < n:=h1 0 (by omega);obtain ⟨g1,g2⟩:=WR r n k (by simpa using hk) (fun i hi=>h1 (i + 1) (by omega)) (fun h=>h2 (by simpa using h));unfold bT;rw [if_pos hx];constructor
  · rintro ⟨a,e⟩;rw [g1 ⟨by simpa using a,e⟩]
  · intro hno;rw [g2 (fun ⟨a,e⟩=>hno ⟨by simpa using a,e⟩)];rfl
theorem nS (n:Int):∀ (L:List Int),(bT L n).length<=L.length + 1
 | []=>Nat.le_refl _
 | x :: r=>by
  have:=nS n r;unfold bT;split
  · simp;exact this
  split <;> simp
theorem lW (n:Int):∀ (l:List Int) (y:Int),y ∈ bT l n ↔ y=n\/y ∈ l
 | [],y=>by unfold bT;simp
 | x :: r,y=>by
  have ih:=lW n r y;unfold bT;split
  ·
   rw [List.mem_cons,ih,List.mem_cons];constructor
   · rintro (h | h | h) <;> simp [h]
   · rintro (h | h | h) <;> simp [h]
  split
  ·
   next e =>
   subst e;rw [List.mem_cons];constructor
   · rintro (h | h) <;> simp [h]
   · rintro (h | h | h) <;> simp [h]
  · rw [List.mem_cons,List.mem_cons]
def gF:List Int->Prop
 | []=>True
 | x :: r=>(∀ y ∈ r,x < y)/\gF r
theorem gF.put (n:Int):∀ {l:List Int},gF l->gF (bT l n)
 | [],h=>by unfold bT;exact ⟨fun y hy=>by simp at hy,trivial⟩
 | x :: r,h=>by
  unfold bT;split
  ·
   next hx =>
   refine ⟨fun y hy=>?_,gF.put n h.2⟩;rcases (lW n r y).1 hy with rfl | hy
   · exact hx
   · exact h.1 y hy
  split
  · exact h
  ·
   next h1 h2 =>
   refine ⟨fun y hy=>?_,h⟩;rcases List.mem_cons.1 hy with rfl | hy
   · omega
   · have:=h.1 y hy;omega
theorem gF.step:∀ {l:List Int} (h:gF l) {k:Nat} {x y:Int},l[k]?=some x->l[k + 1]?=some y->x < y
 | [],_,k,x,y,h1,h2=>by simp at h1
 | z :: r,h,0,x,y,h1,h2=>by simp at h1;subst h1;exact h.1 y (aM (by simpa using h2))
 | z :: r,h,k + 1,x,y,h1,h2=>gF.step h.2 (k:=k) (by simpa using h1) (by simpa using h2)
theorem gF.ext:∀ {a b:List Int},gF a->gF b->(∀ x,x ∈ a ↔ x ∈ b)->a=b
 | [],[],_,_,_=>rfl
 | [],y :: b,_,_,h=>by have:=(h y).2 (List.mem_cons_self ..);simp at this
 | x :: a,[],_,_,h=>by have:=(h x).1 (List.mem_cons_self ..);simp at this
 | x :: a,y :: b,ha,hb,h=>by
  have e:x=y:=by
   have h1:=(h x).1 (List.mem_cons_self ..);have h2:=(h y).2 (List.mem_cons_self ..);rcases List.mem_cons.1 h1 with h1 | h1
   · exact h1
   rcases List.mem_cons.1 h2 with h2 | h2
   · exact h2.symm
   have:=ha.1 y h2;have:=hb.1 x h1;omega
  subst e;rw [gF.ext ha.2 hb.2 fun z=>⟨fun hz=>?_,fun hz=>?_⟩]
  ·
   rcases List.mem_cons.1 ((h z).1 (List.mem_cons_of_mem _ hz)) with e | h1
   · subst e;exact absurd (ha.1 _ hz) (Int.lt_irrefl _)
   · exact h1
  ·
   rcases List.mem_cons.1 ((h z).2 (List.mem_cons_of_mem _ hz)) with e | h1
   · subst e;exact absurd (hb.1 _ hz) (Int.lt_irrefl _)
   · exact h1
def eH (NU:Nat->Bool):List Nat->List Nat
 | []=>[]
 | k :: r=>if NU k=true then k :: eH NU r else [k]
theorem Gu (NU:Nat->Bool):∀ (L:List Nat) (x:Nat),x ∈ eH NU L->x ∈ L
 | [],x,h=>by cases h
 | k :: r,x,h=>by
  unfold eH at h;split at h
  ·
   rcases List.mem_cons.1 h with rfl | h
   · exact List.mem_cons_self ..
   · exact List.mem_cons_of_mem _ (Gu NU r x h)
  ·
   rcases List.mem_cons.1 h with rfl | h
   · exact List.mem_cons_self ..
   · cases h
theorem Zv (NU:Nat->Bool):∀ (L:List Nat) (k x:Nat),L[k]?=some x->NU x=false->(∀ j y,j < k->L[j]?=some y->NU y=true)->eH NU L=L.take (k + 1)
 | [],k,x,h,_,_=>by simp at h
 | z :: r,0,x,h,hn,_=>by simp at h;subst h;unfold eH;rw [if_neg (by rw [hn];decide)];rfl
 | z :: r,k + 1,x,h,hn,ha=>by have hz:=ha 0 z (by omega) rfl;unfold eH;rw [if_pos hz,Zv NU r k x (by simpa using h) hn fun j y hj hy=>ha (j + 1) y (by omega) (by simpa using hy)];rfl
theorem GH (NU:Nat->Bool):∀ (L:List Nat),(∀ j y:Nat,L[j]?=some y->NU y=true)->eH NU L=L
 | [],_=>rfl
 | z :: r,ha=>by unfold eH;rw [if_pos (ha 0 z rfl),GH NU r fun j y hy=>ha (j + 1) y (by simpa using hy)]
def Pe (gr:Gj) (NU:Nat->Bool) (M:Nat->Bool) (n:Nat):Bool:=match gr.ns[n]? with
 | none=>false
 | some x=>if x.op=13 then true else if x.op=9\/x.op=10 then false else if x.op=11 then M (bY gr n) else if x.op=4 then (eH NU x.ks).any M else x.ks.any M
def nH (gr:Gj):Nat->Bool:=gK (Pe gr (aZ gr)) gr.ns.length (gr.ns.length + 1) (fun _=>false)
def wN (gr:Gj) (n:Nat):Bool:=match gr.ns[n]? with
 | none=>false
 | some x=>if x.op=11\/x.op=9\/x.op=10 then false else x.ks.isEmpty || ((x.op == 4 || x.op == 5) && !nH gr n)
def gT (gr:Gj) (n:Nat):List Nat:=match gr.ns[n]? with
 | none=>[]
 | some x=>if x.op=11 then [bY gr n] else if x.op=9\/x.op=10 then [] else if (x.ks.isEmpty || ((x.op == 4 || x.op == 5) && !nH gr n))=true then [] else if x.op=4 then eH (aZ gr) x.ks else x.ks
abbrev Fst:=(Nat->Bool) × List Int
def oD (V:Nat->Fst->Fst):List Nat->Fst->Fst
 | [],s=>s
 | k :: r,s=>oD V r (V k s)
def jI (gr:Gj):Nat->Nat->Fst->Fst
 | 0,_,s=>s
 | d + 1,n,s=>if s.1 n=true then s else oD (jI gr d) (gT gr n) (dC s.1 n,if wN gr n=true then bT s.2 (n:Int) else s.2)
def dE (gr:Gj) (n:Nat):List Int:=(jI gr (gr.ns.length + 1) n (fun _=>false,[])).2
theorem Zb (M:Nat->Bool) (n:Nat):∀ j,M j=true->dC M n j=true:=fun j h=>by unfold dC;split;rfl;exact h
theorem PG {V:Nat->Fst->Fst} (P:Fst->Prop) (hV:∀ k s,P s->P (V k s)):∀ (L:List Nat) (s:Fst),P s->P (oD V L s)
 | [],s,h=>h
 | k :: r,s,h=>PG P hV r (V k s) (hV k s h)
theorem Xi {V:Nat->Fst->Fst} {T:Nat->Prop} (P:Fst->Prop) (hV:∀ k s,T k->P s->P (V k s)):∀ (L:List Nat) (s:Fst),(∀ k ∈ L,T k)->P s->P (oD V L s)
 | [],s,_,h=>h
 | k :: r,s,ht,h=>Xi P hV r (V k s) (fun j hj=>ht j (List.mem_cons_of_mem _ hj)) (hV k s (ht k (List.mem_cons_self ..)) h)
theorem xR (gr:Gj):∀ (d n:Nat) (s:Fst) (j:Nat),s.1 j=true->(jI gr d n s).1 j=true
 | 0,n,s,j,h=>h
 | d + 1,n,s,j,h=>by
  unfold jI;split
  · exact h
  · exact PG (fun t=>t.1 j=true) (fun k t ht=>xR gr d k t j ht) _ _ (Zb _ _ _ h)
theorem Hf {M M':Nat->Bool} (h:∀ j,M j=true->M' j=true):∀ N,bF M' N<=bF M N
 | 0=>Nat.le_refl _
 | N + 1=>by
  have:=Hf h N;unfold bF
  cases hm:M N
  · cases M' N <;> simp <;> omega
  · rw [h N hm];simp;exact this
theorem Hg {M:Nat->Bool} {n N d:Nat} (hn:n < N) (hm:M n=false) (h:bF M N < d + 1):bF (dC M n) N < d:=by have h1:=iR M n hm N;have h2:=gZ M n hm N hn;rw [if_pos hn] at h1;omega
theorem A0j {gr:Gj} (hg:Good gr) (hb:∀ n,n < gr.ns.length->bY gr n < gr.ns.length) {n:Nat} (hn:n < gr.ns.length):∀ k ∈ gT gr n,k < gr.ns.length:=fun k hk=>by
 unfold gT at hk
 cases hx:gr.ns[n]? with
 | none=>rw [hx] at hk;cases hk
 | some x =>
  rw [hx] at hk;have hk:k ∈ (if x.op=11 then [bY gr n] else if x.op=9\/x.op=10 then [] else if (x.ks.isEmpty || ((x.op == 4 || x.op == 5) && !nH gr n))=true then [] else if x.op=4 then eH (aZ gr) x.ks else x.ks):=hk;have hkid:=hg.kid x (aM hx);split at hk
  · rw [List.mem_singleton] at hk;subst hk;exact hb n hn
  split at hk
  · cases hk
  split at hk
  · cases hk
  split at hk
  · exact hkid k (Gu _ _ _ hk)
  · exact hkid k hk
inductive Rch (gr:Gj):Nat->Nat->Prop
 | refl (n:Nat):Rch gr n n
 | step {n k y:Nat}:k ∈ gT gr n->Rch gr k y->Rch gr n y
theorem Rch.tail {gr:Gj} {n y z:Nat} (h:Rch gr n y) (hz:z ∈ gT gr y):Rch gr n z:=by
 induction h with
 | refl n=>exact .step hz (.refl z)
 | step hk _ ih=>exact .step hk (ih hz)
theorem Src.zero (A:Option Addr) (c:Nat) (W:World):Src Tryz.prog 1 25 (.slice A 0 c) 0 [] W:=by
 cases A with
 | none=>exact Src.ofNil W Tryz.underlying25 c
 | some a=>exact Src.ofSlice W Tryz.underlying25 a 0 c [] rfl (fun j u h=>by simp at h) (fun u h=>by simp at h)
theorem pJ (L:List Int) (j:Int) (hl:L.length<=1000) (v:Value) (C:Nat) (w:World) (hv:aO w C v L) :
  Calls Tryz.prog 69 #[v,.int .i64 j] w fun e w'=>∃ v',e=.returned v'/\aO w' w.heap.size v' (bT L j)/\Below w.heap.size w w':=by
 have HP:=aH (fun k=>WR L j k);have hsl:(L.length:Int)<=1000:=by omega
 obtain ⟨RES,hR⟩:∃ R,bT L j=R:=⟨_,rfl⟩;rw [hR] at HP ⊢;clear hR hl;obtain ⟨ao,cap,rfl,hcap,hcell⟩:=hv;have HCELL:=aH hcell;obtain ⟨m,hm⟩:∃ m,L.length=m:=⟨_,rfl⟩;have HM:=aH hm;rw [hm] at hcap hsl;rw [hm];clear hcell hm;obtain ⟨i0,hi,hz0,hz1,hz2⟩:=info_parts gL;have IP:=aH (And.intro hi (And.intro hz0 (And.intro hz1 hz2)));clear hi hz0 hz1 hz2
 have HMK:=aH (show ∀ W:World,(Instr.makeSlice 25 (.int .i64 0) (.int .i64 ((m:Int) + 1))).run Tryz.prog W=.ok (.slice (some ⟨W.heap.size,0,none⟩) 0 (m + 1)) (W.alloc (.cells (madeCells #[.int .i64 0] (m + 1)) 3)) from fun W=>by
  have h:=run_make (P:=Tryz.prog) W 25 3 i0 (.int .i64 0) Tryz.underlying25 IP.o.1 IP.o.2.1 .i64 .i64 0 ((m:Int) + 1) (Int.le_refl _) (by omega) (by rw [IP.o.2.2.2];omega) (by omega);rw [IP.o.2.2.1,show ((m:Int) + 1).toNat=m + 1 by omega,Nat.mul_one] at h
  exact h)
 go_enter Tryz.func69,Tryz.ntmps69;go_wp2_with fail
 go_loopw [5] (fun b5 wr=>∃ k:Nat,b5=.int .i64 (k:Int)/\(k:Int)<=m/\aQ (∀ i,i < k->L.getD i 0 < j)/\w=wr) (fun b5 _=>m - (intOf b5).toNat)
 case atStart=>exact ⟨0,rfl,by omega,aH (fun i hi=>by omega),rfl⟩
 case round =>
  obtain ⟨k,rfl,hk,HK,rfl⟩:=hrel;have hw1:IntKind.i64.wrap ((k:Int) + 1)=(k:Int) + 1:=wI;have hwm:IntKind.i64.wrap ((m:Int) + 1)=(m:Int) + 1:=wI;have hkc:(k:Int)<=cap:=by omega
  have hkc':k<=cap:=by omega
  have hkm:k<=m:=by omega
  by_cases h1:(k:Int) < m
  ·
   obtain ⟨g,off,rfl,hg,hgC,hc⟩:=HCELL.o k (by have:=HM.o;omega);obtain ⟨y,hy⟩:∃ y,L.getD k 0=y:=⟨_,rfl⟩;have HY:=aH hy;rw [hy] at hc;clear hy;by_cases h2:y < j
   ·
    have HE:=aH (show ∀ i,i < k + 1->L.getD i 0 < j from fun i hi=>by
     by_cases e:i=k
     · subst e;rw [HY.o];exact h2
     · exact HK.o i (by omega))
    go_wp2
    go_roundw
    case rel=>exact ⟨k + 1,by go_num,by omega,HE,trivial⟩
    case measure=>simp [intOf];omega
   ·
    have HPK:=aH (HP.o k (by have:=HM.o;omega) HK.o (fun _=>by rw [HY.o];omega));have h2':decide (y < j)=false:=aF h2;by_cases h3:y=j
    ·
     have hkx:RES=L:=HPK.o.1 ⟨by have:=HM.o;omega,by rw [HY.o];exact h3⟩;subst h3;clear h2 HK HPK;go_wp2_with fail;have HX:=aH hkx;clear hkx;refine wp_region_any (by kernel_rfl) ?_;try (change wpAny _ _ _ _ _ _ _ (World.drew _))
     refine tA 0 rfl ?_;go_simp;refine tA 1 rfl ?_;go_simp;refine tA 2 rfl ?_;go_simp;refine tA 4 rfl ?_;go_simp;refine tA 5 rfl ?_;go_simp;refine tA 6 rfl ?_;go_simp;refine eY (i:=3) (by kernel_rfl) (aY (v:=.slice (some ⟨w.heap.size,0,none⟩) 0 (m + 1)) (w':=w.drew.alloc (.cells (madeCells #[.int .i64 0] (m + 1)) 3)) rfl (by kernel_rfl) ?_ ?_)
     · go_simp;rw [HMK.o];rfl
     have hb1:Below w.heap.size w (w.drew.alloc (.cells (madeCells #[.int .i64 0] (m + 1)) 3)):=((Below.refl _ _).drew).alloc (Nat.le_refl _) _;have HWZ:=aH (show Win (fun b=>w.heap.size<=b) 3 1 (w.drew.alloc (.cells (madeCells #[.int .i64 0] (m + 1)) 3)) (.slice (some ⟨w.heap.size,0,none⟩) 0 (m + 1)) 0 [] from ⟨by simp,.inr ⟨w.heap.size,0,m + 1,_,rfl,Nat.le_refl _,heap_alloc_new w.drew _,Nat.zero_le _,by unfold maxLen;omega,by simp [size_madeCells],by simp⟩⟩);have hs:Src Tryz.prog 1 25 (.slice (some (⟨g,off,none⟩:Addr)) k cap) k ((L.take k).map (Value.int .i64)) (w.drew.alloc (.cells (madeCells #[.int .i64 0] (m + 1)) 3)):=by
      have hh:=Src.ofInts (w:=w.drew.alloc (.cells (madeCells #[.int .i64 0] (m + 1)) 3)) (C:=C) (ao:=some (⟨g,off,none⟩:Addr)) (cap:=cap) (L:=L.take k) (fun i hi=>by
       have hi2:i < k/\i < L.length:=(by simp at hi;omega);obtain ⟨g',off',e',hg',hgC',hc'⟩:=HCELL.o i hi2.2;refine ⟨g',off',e',aL hg' hb1.size,hgC',?_⟩
       rw [aC hc' hb1,List.getD_eq_getElem?_getD,List.getD_eq_getElem?_getD,List.getElem?_take,if_pos hi2.1])
      rw [show (L.take k).length=k by have:=HM.o;simp;omega] at hh;exact hh
     refine eY (i:=7) (by kernel_rfl) ?_;refine kK rfl (by kernel_rfl) (.tmp 24) (.tmp 27) 25 25 rfl (fun b=>w.heap.size<=b) 3 i0 _ 1 8 Tryz.underlying25 IP.o.1 IP.o.2.1 IP.o.2.2.1 IP.o.2.2.2 rfl (by decide) _ 0 [] rfl HWZ.o _ k _ rfl hs (by unfold maxLen;omega) (by omega) ?_;intro v2 W2 h2w b2;have hI2:Below w.heap.size w W2:=hb1.trans (b2.below hb1.size (fun g h=>h));have h2x:=h2w.mono (T:=fun g=>w.heap.size<=g) (fun g _ hg=>by rcases hg with hg | hg;exact hg;exact Nat.le_trans hb1.size hg);rw [Nat.zero_add,List.nil_append] at h2x;have H2:=aH h2x;have HI2:=aH hI2;clear h2w b2 h2x hs hb1 HWZ;go_simp;refine tA 8 rfl ?_;go_simp;refine wpAny_done (by kernel_rfl) ?_ _;have hkm1:((k:Int) == (m:Int))=false:=aN.2 (by omega);have hck:¬ cap=k:=(by omega);have hcc:=aC hc HI2.o;have hg2:=World.block_lt_of_cell? W2 _ hcc;go_upto_region 7 with fail;have hs3:Src Tryz.prog 1 25 (.slice (if cap=k then (some (⟨g,off,none⟩:Addr)) else (some (⟨g,off,none⟩:Addr)).map (·.add k)) (m - k) (cap - k)) (m - k) ((L.drop k).map (Value.int .i64)) W2:=by
      have hh:=Src.ofDrop (w:=W2) (C:=C) (ao:=some (⟨g,off,none⟩:Addr)) (cap:=cap) (k:=k) (L:=L) (by have:=HM.o;omega) (by have:=HM.o;omega) (fun i hi=>by
       obtain ⟨g',off',e',hg',hgC',hc'⟩:=HCELL.o i hi
       exact ⟨g',off',e',aL hg' HI2.o.size,hgC',aC hc' HI2.o⟩)
      rw [HM.o] at hh;exact hh
     try rw [if_neg hck] at hs3
     try simp only [Option.map_some,Addr.add_lit] at hs3
     go_wp2_with (first
      | (at_builtin;refine jD _ rfl _ _ 25 25 rfl (fun b=>w.heap.size<=b) 3 i0 _ 1 8 Tryz.underlying25 IP.o.1 IP.o.2.1 IP.o.2.2.1 IP.o.2.2.2 rfl (by decide) v2 k _ rfl H2.o _ (m - k) _ rfl hs3 (by unfold maxLen;omega) (by omega) ?_))
     intro v3 W3 h3 b3;have hI3:Below w.heap.size w W3:=HI2.o.trans (b3.below HI2.o.size (fun g h=>h));have h3':=h3.mono (T:=fun g=>w.heap.size<=g) (fun g _ hg=>by rcases hg with hg | hg;exact hg;exact Nat.le_trans HI2.o.size hg);clear h3 hs3;go_wp2;go_ret;refine ⟨v3,rfl,?_,hI3⟩;rw [HX.o];exact Win.ints (n:=m) (L:=L) HM.o (by first | exact h3' | (rw [<- List.map_append,List.take_append_drop,show k + (m - k)=m by omega] at h3';exact h3'))
    ·
     have hkx:RES=L.take k ++ j :: L.drop k:=HPK.o.2 (fun ⟨_,e⟩=>by rw [HY.o] at e;exact h3 e);have h3':(y == j)=false:=aN.2 h3;have h3'':(y != j)=true:=bne_iff_ne.2 h3;clear h2 h3 HK HPK;go_wp2_with fail;have HX:=aH hkx;clear hkx;refine wp_region_any (by kernel_rfl) ?_;try (change wpAny _ _ _ _ _ _ _ (World.drew _))
     refine tA 0 rfl ?_;go_simp;refine tA 1 rfl ?_;go_simp;refine tA 2 rfl ?_;go_simp;refine tA 4 rfl ?_;go_simp;refine tA 5 rfl ?_;go_simp;refine tA 6 rfl ?_;go_simp;refine eY (i:=3) (by kernel_rfl) (aY (v:=.slice (some ⟨w.heap.size,0,none⟩) 0 (m + 1)) (w':=w.drew.alloc (.cells (madeCells #[.int .i64 0] (m + 1)) 3)) rfl (by kernel_rfl) ?_ ?_)
     · go_simp;rw [HMK.o];rfl
     have hb1:Below w.heap.size w (w.drew.alloc (.cells (madeCells #[.int .i64 0] (m + 1)) 3)):=((Below.refl _ _).drew).alloc (Nat.le_refl _) _;have HWZ:=aH (show Win (fun b=>w.heap.size<=b) 3 1 (w.drew.alloc (.cells (madeCells #[.int .i64 0] (m + 1)) 3)) (.slice (some ⟨w.heap.size,0,none⟩) 0 (m + 1)) 0 [] from ⟨by simp,.inr ⟨w.heap.size,0,m + 1,_,rfl,Nat.le_refl _,heap_alloc_new w.drew _,Nat.zero_le _,by unfold maxLen;omega,by simp [size_madeCells],by simp⟩⟩);have hs:Src Tryz.prog 1 25 (.slice (some (⟨g,off,none⟩:Addr)) k cap) k ((L.take k).map (Value.int .i64)) (w.drew.alloc (.cells (madeCells #[.int .i64 0] (m + 1)) 3)):=by
      have hh:=Src.ofInts (w:=w.drew.alloc (.cells (madeCells #[.int .i64 0] (m + 1)) 3)) (C:=C) (ao:=some (⟨g,off,none⟩:Addr)) (cap:=cap) (L:=L.take k) (fun i hi=>by
       have hi2:i < k/\i < L.length:=(by simp at hi;omega);obtain ⟨g',off',e',hg',hgC',hc'⟩:=HCELL.o i hi2.2;refine ⟨g',off',e',aL hg' hb1.size,hgC',?_⟩
       rw [aC hc' hb1,List.getD_eq_getElem?_getD,List.getD_eq_getElem?_getD,List.getElem?_take,if_pos hi2.1])
      rw [show (L.take k).length=k by have:=HM.o;simp;omega] at hh;exact hh
     refine eY (i:=7) (by kernel_rfl) ?_;refine kK rfl (by kernel_rfl) (.tmp 24) (.tmp 27) 25 25 rfl (fun b=>w.heap.size<=b) 3 i0 _ 1 8 Tryz.underlying25 IP.o.1 IP.o.2.1 IP.o.2.2.1 IP.o.2.2.2 rfl (by decide) _ 0 [] rfl HWZ.o _ k _ rfl hs (by unfold maxLen;omega) (by omega) ?_;intro v2 W2 h2w b2;have hI2:Below w.heap.size w W2:=hb1.trans (b2.below hb1.size (fun g h=>h));have h2x:=h2w.mono (T:=fun g=>w.heap.size<=g) (fun g _ hg=>by rcases hg with hg | hg;exact hg;exact Nat.le_trans hb1.size hg);rw [Nat.zero_add,List.nil_append] at h2x;have H2:=aH h2x;have HI2:=aH hI2;clear h2w b2 h2x hs hb1 HWZ;go_simp;refine tA 8 rfl ?_;go_simp;refine wpAny_done (by kernel_rfl) ?_ _;have hkm1:((k:Int) == (m:Int))=false:=aN.2 (by omega);have hck:¬ cap=k:=(by omega);have hcc:=aC hc HI2.o;have hg2:=World.block_lt_of_cell? W2 _ hcc;have hnew:∀ W:World,Src Tryz.prog 1 25 (.slice (some ⟨W.heap.size,0,none⟩) 1 1) 1 [.int .i64 j] (W.alloc (.cells #[.int .i64 j] 3)):=fun W=>Src.ofSlice _ Tryz.underlying25 ⟨W.heap.size,0,none⟩ 1 1 [.int .i64 j] rfl (bD W 3 [.int .i64 j]) (fun u hu=>by rw [List.mem_singleton.1 hu];rfl);have HNEW:=aH hnew;clear hnew
     go_wp2_with (first
      | (at_builtin;refine jD _ rfl _ _ 25 25 rfl (fun b=>w.heap.size<=b) 3 i0 _ 1 8 Tryz.underlying25 IP.o.1 IP.o.2.1 IP.o.2.2.1 IP.o.2.2.2 rfl (by decide) v2 k _ rfl (H2.o.below (bA _)) _ 1 [.int .i64 j] rfl (HNEW.o W2) (by unfold maxLen;omega) (by omega) ?_))
     intro v4 W4 h4 b4;have hI4:Below w.heap.size w W4:=(HI2.o.trans ((Below.refl W2.heap.size W2).alloc (Nat.le_refl _) (.cells #[.int .i64 j] 3) |>.mono HI2.o.size)).trans (b4.below (by simp;have:=HI2.o.size;omega) (fun g h=>h))
     have h4':=h4.mono (T:=fun g=>w.heap.size<=g) (fun g _ hg=>by
      rcases hg with hg | hg
      · exact hg
      · exact Nat.le_trans HI2.o.size (Nat.le_of_succ_le hg))
     have H4:=aH h4';have HI4:=aH hI4;clear h4 b4 h4';go_upto_region 7 with fail;have hs3:Src Tryz.prog 1 25 (.slice (if cap=k then (some (⟨g,off,none⟩:Addr)) else (some (⟨g,off,none⟩:Addr)).map (·.add k)) (m - k) (cap - k)) (m - k) ((L.drop k).map (Value.int .i64)) W4:=by
      have hh:=Src.ofDrop (w:=W4) (C:=C) (ao:=some (⟨g,off,none⟩:Addr)) (cap:=cap) (k:=k) (L:=L) (by have:=HM.o;omega) (by have:=HM.o;omega) (fun i hi=>by
       obtain ⟨g',off',e',hg',hgC',hc'⟩:=HCELL.o i hi
       exact ⟨g',off',e',aL hg' HI4.o.size,hgC',aC hc' HI4.o⟩)
      rw [HM.o] at hh;exact hh
     try rw [if_neg hck] at hs3
     try simp only [Option.map_some,Addr.add_lit] at hs3
     go_wp2_with (first
      | (at_builtin;refine jD _ rfl _ _ 25 25 rfl (fun b=>w.heap.size<=b) 3 i0 _ 1 8 Tryz.underlying25 IP.o.1 IP.o.2.1 IP.o.2.2.1 IP.o.2.2.2 rfl (by decide) v4 (k + 1) _ rfl H4.o _ (m - k) _ rfl hs3 (by unfold maxLen;omega) (by omega) ?_))
     intro v3 W3 h3 b3;have hI3:Below w.heap.size w W3:=HI4.o.trans (b3.below HI4.o.size (fun g h=>h));have h3':=h3.mono (T:=fun g=>w.heap.size<=g) (fun g _ hg=>by rcases hg with hg | hg;exact hg;exact Nat.le_trans HI4.o.size hg);clear h3 hs3;go_wp2;go_ret;refine ⟨v3,rfl,?_,hI3⟩;rw [HX.o];exact Win.ints (n:=k + 1 + (m - k)) (L:=L.take k ++ j :: L.drop k) (by have:=HM.o;simp;omega) (by simpa [List.map_append] using h3')
  ·
   have hkx:RES=L.take k ++ j :: L.drop k:=(HP.o k (by have:=HM.o;omega) HK.o (fun h=>by have:=HM.o;omega)).2 (fun ⟨h,_⟩=>by have:=HM.o;omega);go_wp2_with fail;have HX:=aH hkx;clear hkx;refine wp_region_any (by kernel_rfl) ?_;try (change wpAny _ _ _ _ _ _ _ (World.drew _))
   refine tA 0 rfl ?_;go_simp;refine tA 1 rfl ?_;go_simp;refine tA 2 rfl ?_;go_simp;refine tA 4 rfl ?_;go_simp;refine tA 5 rfl ?_;go_simp;refine tA 6 rfl ?_;go_simp;refine eY (i:=3) (by kernel_rfl) (aY (v:=.slice (some ⟨w.heap.size,0,none⟩) 0 (m + 1)) (w':=w.drew.alloc (.cells (madeCells #[.int .i64 0] (m + 1)) 3)) rfl (by kernel_rfl) ?_ ?_)
   · go_simp;rw [HMK.o];rfl
   have hb1:Below w.heap.size w (w.drew.alloc (.cells (madeCells #[.int .i64 0] (m + 1)) 3)):=((Below.refl _ _).drew).alloc (Nat.le_refl _) _;have HWZ:=aH (show Win (fun b=>w.heap.size<=b) 3 1 (w.drew.alloc (.cells (madeCells #[.int .i64 0] (m + 1)) 3)) (.slice (some ⟨w.heap.size,0,none⟩) 0 (m + 1)) 0 [] from ⟨by simp,.inr ⟨w.heap.size,0,m + 1,_,rfl,Nat.le_refl _,heap_alloc_new w.drew _,Nat.zero_le _,by unfold maxLen;omega,by simp [size_madeCells],by simp⟩⟩);have hs:Src Tryz.prog 1 25 (.slice (ao) k cap) k ((L.take k).map (Value.int .i64)) (w.drew.alloc (.cells (madeCells #[.int .i64 0] (m + 1)) 3)):=by
    have hh:=Src.ofInts (w:=w.drew.alloc (.cells (madeCells #[.int .i64 0] (m + 1)) 3)) (C:=C) (ao:=ao) (cap:=cap) (L:=L.take k) (fun i hi=>by
     have hi2:i < k/\i < L.length:=(by simp at hi;omega);obtain ⟨g',off',e',hg',hgC',hc'⟩:=HCELL.o i hi2.2;refine ⟨g',off',e',aL hg' hb1.size,hgC',?_⟩
     rw [aC hc' hb1,List.getD_eq_getElem?_getD,List.getD_eq_getElem?_getD,List.getElem?_take,if_pos hi2.1])
    rw [show (L.take k).length=k by have:=HM.o;simp;omega] at hh;exact hh
   refine eY (i:=7) (by kernel_rfl) ?_;refine kK rfl (by kernel_rfl) (.tmp 24) (.tmp 27) 25 25 rfl (fun b=>w.heap.size<=b) 3 i0 _ 1 8 Tryz.underlying25 IP.o.1 IP.o.2.1 IP.o.2.2.1 IP.o.2.2.2 rfl (by decide) _ 0 [] rfl HWZ.o _ k _ rfl hs (by unfold maxLen;omega) (by omega) ?_;intro v2 W2 h2w b2;have hI2:Below w.heap.size w W2:=hb1.trans (b2.below hb1.size (fun g h=>h));have h2x:=h2w.mono (T:=fun g=>w.heap.size<=g) (fun g _ hg=>by rcases hg with hg | hg;exact hg;exact Nat.le_trans hb1.size hg);rw [Nat.zero_add,List.nil_append] at h2x;have H2:=aH h2x;have HI2:=aH hI2;clear h2w b2 h2x hs hb1 HWZ;go_simp;refine tA 8 rfl ?_;go_simp;refine wpAny_done (by kernel_rfl) ?_ _;obtain rfl:k=m:=(by omega);have hkm1:((k:Int) == (k:Int))=true:=beq_iff_eq.2 rfl;have hnew:∀ W:World,Src Tryz.prog 1 25 (.slice (some ⟨W.heap.size,0,none⟩) 1 1) 1 [.int .i64 j] (W.alloc (.cells #[.int .i64 j] 3)):=fun W=>Src.ofSlice _ Tryz.underlying25 ⟨W.heap.size,0,none⟩ 1 1 [.int .i64 j] rfl (bD W 3 [.int .i64 j]) (fun u hu=>by rw [List.mem_singleton.1 hu];rfl);have HNEW:=aH hnew;clear hnew
   go_wp2_with (first
    | (at_builtin;refine jD _ rfl _ _ 25 25 rfl (fun b=>w.heap.size<=b) 3 i0 _ 1 8 Tryz.underlying25 IP.o.1 IP.o.2.1 IP.o.2.2.1 IP.o.2.2.2 rfl (by decide) v2 k _ rfl (H2.o.below (bA _)) _ 1 [.int .i64 j] rfl (HNEW.o W2) (by unfold maxLen;omega) (by omega) ?_))
   intro v4 W4 h4 b4;have hI4:Below w.heap.size w W4:=(HI2.o.trans ((Below.refl W2.heap.size W2).alloc (Nat.le_refl _) (.cells #[.int .i64 j] 3) |>.mono HI2.o.size)).trans (b4.below (by simp;have:=HI2.o.size;omega) (fun g h=>h))
   have h4':=h4.mono (T:=fun g=>w.heap.size<=g) (fun g _ hg=>by
    rcases hg with hg | hg
    · exact hg
    · exact Nat.le_trans HI2.o.size (Nat.le_of_succ_le hg))
   have H4:=aH h4';have HI4:=aH hI4;clear h4 b4 h4';go_upto_region 7 with fail
   go_wp2_with (first
    | (at_builtin;refine jD _ rfl _ _ 25 25 rfl (fun b=>w.heap.size<=b) 3 i0 _ 1 8 Tryz.underlying25 IP.o.1 IP.o.2.1 IP.o.2.2.1 IP.o.2.2.2 rfl (by decide) v4 _ _ rfl H4.o _ 0 [] rfl (Src.zero _ _ _) (by unfold maxLen;omega) (by omega) ?_))
   all_goals
    intro v3 W3 h3 b3;have hI3:Below w.heap.size w W3:=HI4.o.trans (b3.below HI4.o.size (fun g h=>h));have h3':=h3.mono (T:=fun g=>w.heap.size<=g) (fun g _ hg=>by rcases hg with hg | hg;exact hg;exact Nat.le_trans HI4.o.size hg);clear h3;go_wp2;go_ret;refine ⟨v3,rfl,?_,hI3⟩;rw [HX.o];exact Win.ints (n:=k + 1) (L:=L.take k ++ j :: L.drop k) (by have:=HM.o;simp;omega) (by rw [List.drop_of_length_le (by have:=HM.o;omega)];simpa [List.map_append] using h3')
theorem B5b (o:Int):o=13\/o=9\/o=10\/o=11\/o=4\/((o == 13)=false/\(o == 9)=false/\(o == 10)=false/\(o == 11)=false/\(o == 4)=false):=by simp only [aN];omega
theorem nC.take {w:World} {R:Nat->Prop} {ao:Option Addr} {L:List Nat} (h:nC w R ao L) (m:Nat):nC w R ao (L.take m):=fun k x hx=>by
 rw [List.getElem?_take] at hx;split at hx
 · exact h k x hx
 · cases hx
theorem Gt (NU:Nat->Bool):∀ (L:List Nat),eH NU L=L.take (eH NU L).length
 | []=>rfl
 | k :: r=>by
  unfold eH;split
  · rw [List.length_cons,List.take_succ_cons,<- Gt NU r]
  · rfl
theorem B0v (M:Nat->Bool) (N g:Nat) (hN:N<=160) (L:List Nat) (R:Nat->Prop) (ao:Option Addr) (c:Nat) (hL:∀ k ∈ L,k < N) (h9:L.length<=90001) (w:World) (hm:Own w g 4 (bZ M N)) (hk:nC w R ao L) :
  Calls Tryz.prog 86 #[.slice (some ⟨g,0,none⟩) N N,.slice ao L.length c] w fun e w'=>e=.returned (.bool (L.any M))/\w'=w:=by
 have HL:=aH hL;have HM:=aH hm;have HK:=aH hk;obtain ⟨n,hn⟩:∃ z,L.length=z:=⟨_,rfl⟩;have HN:=aH hn;obtain ⟨RES,hRES⟩:∃ z,L.any M=z:=⟨_,rfl⟩;have HRES:=aH hRES;rw [hn] at h9;rw [hRES,hn];clear hL hm hk hn hRES;go_enter Tryz.func86,Tryz.ntmps86;go_wp2_with fail
 go_loopw [9] (fun v9 wr=>∃ k:Nat,v9=.int .i64 (k:Int)/\(k:Int)<=n/\aQ ((L.take k).any M=false)/\wr=w) (fun v9 _=>n - (intOf v9).toNat)
 case atStart=>exact ⟨0,rfl,by omega,aH rfl,(by first | trivial | rfl)⟩
 case round =>
  obtain ⟨k,rfl,hk,HA,rfl⟩:=hrel;by_cases hkn:(k:Int) < n
  ·
   have hkn1:decide ((k:Int) < n)=true:=aT hkn;have hkn2:decide (k < n)=true:=aT (by omega);obtain ⟨x,hx⟩:∃ x,L[k]?=some x:=⟨_,aG (by have:=HN.o;omega)⟩;obtain ⟨b,off,hao,hb,-,c0⟩:=HK.o k x hx;have hxN:=HL.o x (aM hx);have HX:=aH hx;have m0:wr.cell? ⟨g,x,none⟩=some (.bool (M x)):=(by rw [HM.o.cell x];exact bH M N x hxN);have hgl:=HM.o.lt;have hx1:decide ((x:Int) < (N:Int))=true:=aT (by omega);have hx2:decide (x < N)=true:=aT hxN;have hw1:IntKind.i64.wrap ((k:Int) + 1)=(k:Int) + 1:=wI;obtain ⟨z,hz⟩:∃ z,M x=z:=⟨_,rfl⟩;have HZ:=aH hz;rw [hz] at m0;subst hao;clear hx hz
   cases z with
   | true =>
    have HE:=aH (show RES=true from by rw [<- HRES.o];exact GK HX.o HZ.o);go_wp2;go_ret;rw [HE.o];exact ⟨rfl,rfl⟩
   | false =>
    have HA1:=aH (show (L.take (k + 1)).any M=false from by rw [Ep HX.o,HA.o,HZ.o];rfl);go_wp2
    go_roundw
    case rel=>exact ⟨k + 1,by go_num,by omega,HA1,(by first | trivial | rfl)⟩
    case measure=>simp [intOf];omega
  · have hkn1:decide ((k:Int) < n)=false:=aF hkn;have hkn2:decide (k < n)=false:=aF (by omega);have HE:=aH (show RES=false from by rw [<- HRES.o,<- HA.o,List.take_of_length_le (by have:=HN.o;omega)]);go_wp2;go_ret;rw [HE.o];exact ⟨rfl,rfl⟩
theorem IR (M:Nat->Bool) (N g:Nat) (hN:N<=160) (L:List Nat) (R:Nat->Prop) (ao:Option Addr) (c:Nat) (hc:L.length<=c) (hL:∀ k ∈ L,k < N) (h9:L.length<=90001) (w:World) (hm:Own w g 4 (bZ M N)) (hk:nC w R ao L) :
  Calls Tryz.prog 71 #[.slice (some ⟨g,0,none⟩) N N,.slice ao L.length c] w fun e w'=>e=.returned (.slice ao (eH M L).length c)/\w'=w:=by
 have HL:=aH hL;have HM:=aH hm;have HK:=aH hk;obtain ⟨n,hn⟩:∃ z,L.length=z:=⟨_,rfl⟩;have HN:=aH hn;obtain ⟨RES,hRES⟩:∃ z,(eH M L).length=z:=⟨_,rfl⟩;have HRES:=aH hRES;rw [hn] at h9 hc;rw [hRES,hn];clear hL hm hk hn hRES;go_enter Tryz.func71,Tryz.ntmps71;go_wp2_with fail
 go_loopw [9] (fun v9 wr=>∃ k:Nat,v9=.int .i64 (k:Int)/\(k:Int)<=n/\aQ (∀ (j y:Nat),j < k->L[j]?=some y->M y=true)/\wr=w) (fun v9 _=>n - (intOf v9).toNat)
 case atStart=>exact ⟨0,rfl,by omega,aH (fun j y hj=>by omega),(by first | trivial | rfl)⟩
 case round =>
  obtain ⟨k,rfl,hk,HA,rfl⟩:=hrel;by_cases hkn:(k:Int) < n
  ·
   have hkn1:decide ((k:Int) < n)=true:=aT hkn;have hkn2:decide (k < n)=true:=aT (by omega);obtain ⟨x,hx⟩:∃ x,L[k]?=some x:=⟨_,aG (by have:=HN.o;omega)⟩;obtain ⟨b,off,hao,hb,-,c0⟩:=HK.o k x hx;have hxN:=HL.o x (aM hx);have HX:=aH hx;have m0:wr.cell? ⟨g,x,none⟩=some (.bool (M x)):=(by rw [HM.o.cell x];exact bH M N x hxN);have hgl:=HM.o.lt;have hx1:decide ((x:Int) < (N:Int))=true:=aT (by omega);have hx2:decide (x < N)=true:=aT hxN;have hw1:IntKind.i64.wrap ((k:Int) + 1)=(k:Int) + 1:=wI;obtain ⟨z,hz⟩:∃ z,M x=z:=⟨_,rfl⟩;have HZ:=aH hz;rw [hz] at m0;subst hao;clear hx hz
   cases z with
   | false =>
    have HE:=aH (show RES=k + 1 from by rw [<- HRES.o,Zv M L k x HX.o HZ.o HA.o,List.length_take];have:=HN.o;omega);have hkc:(k:Int) + 1<=(c:Int):=(by omega);have hkc2:k + 1<=c:=(by omega);go_wp2;go_ret;rw [HE.o];exact ⟨rfl,rfl⟩
   | true =>
    have HA1:=aH (show ∀ (j y:Nat),j < k + 1->L[j]?=some y->M y=true from fun j y hj hy=>by
     by_cases e:j=k
     · subst e;rw [HX.o] at hy;injection hy with hy;subst hy;exact HZ.o
     · exact HA.o j y (by omega) hy)
    go_wp2
    go_roundw
    case rel=>exact ⟨k + 1,by go_num,by omega,HA1,(by first | trivial | rfl)⟩
    case measure=>simp [intOf];omega
  · have hkn1:decide ((k:Int) < n)=false:=aF hkn;have hkn2:decide (k < n)=false:=aF (by omega);have HE:=aH (show RES=n from by rw [<- HRES.o,GH M L (fun j y hy=>HA.o j y (by have:=(aS.1 hy).1;have:=HN.o;omega) hy),HN.o]);go_wp2;go_ret;rw [HE.o];exact ⟨rfl,rfl⟩
theorem B1A (gr:Gj) (a:Gv) (hg:Good gr) (NU M:Nat->Bool) (n u g:Nat) (hn:n < gr.ns.length) (w:World) (hG:dG w gr a) (hu:Own w u 4 (bZ NU gr.ns.length)) (hm:Own w g 4 (bZ M gr.ns.length)) :
  Calls Tryz.prog 68 #[grv gr a,.slice (some ⟨u,0,none⟩) gr.ns.length gr.ns.length,.slice (some ⟨g,0,none⟩) gr.ns.length gr.ns.length,.int .i64 (n:Int)] w fun e w'=>e=.returned (.bool (Pe gr NU M n))/\Below w.heap.size w w':=by
 obtain ⟨x,hx⟩:∃ x,gr.ns[n]?=some x:=⟨_,aG hn⟩;have HRU:=aH (show Pe gr NU M n=(if x.op=13 then true else if x.op=9\/x.op=10 then false else if x.op=11 then M (bY gr n) else if x.op=4 then (eH NU x.ks).any M else x.ks.any M) from by unfold Pe;rw [hx]);have HB1:=gB w a gr;have HO1:=gO w a gr;have HM1:=aH (hm.under HB1.o hm.lt);have HU1:=aH (hu.under HB1.o hu.lt);have HG1:=aH (hG.below HB1.o);obtain ⟨b,off,ko,kc,hno,hb,hcap,c0,c1,c2,c3,c4,c5,c6,c7,c8,c9,hk⟩:=HG1.o.1 n x hx;have HK1:=aH hk;have HNO:=aH hno;have HQ:=aH (jK hg hn);have HON:=aH (fun (W:World) (m:Nat) h1 (h2:nC W (fun _=>True) ko (x.ks.take m))=>B0v M gr.ns.length g hg.len (x.ks.take m) (fun _=>True) ko kc (fun k hk=>hg.kid x (aM hx) k (List.mem_of_mem_take hk)) (Nat.le_trans (by rw [List.length_take];omega) (hg.kl x (aM hx))) W h1 h2);have HFR:=aH (fun W h1 h2=>IR NU gr.ns.length u hg.len x.ks (fun _=>True) ko kc hcap.2 (hg.kid x (aM hx)) (hg.kl x (aM hx)) W h1 h2);have HBO:=aH (fun W h=>pU gr a hg n hn W h);clear hno hk;unfold grv;unfold grv at HBO;obtain ⟨RES,hRES⟩:∃ z,Pe gr NU M n=z:=⟨_,rfl⟩;obtain ⟨nn,nh,nms,nw,hnn,hnh,hnms,hnw⟩:=nG gr;obtain ⟨nk,hnk⟩:∃ z,x.ks.length=z:=⟨_,rfl⟩;have HNK:=aH hnk;obtain ⟨op,hop⟩:∃ z,x.op=z:=⟨_,rfl⟩;obtain ⟨q,hq⟩:∃ z,bY gr n=z:=⟨_,rfl⟩;have hn160:nn<=160:=by rw [<- hnn];exact hg.len
 rw [hnn] at hn;rw [hRES,hop,hq] at HRU;rw [hq,hnn] at HQ;rw [hnn] at HON;rw [hnk,hnn] at HFR;rw [hnn,hnh,hnms,hnw,hq] at HBO;rw [hnn,hnh,hnms,hnw] at HB1 HO1 HM1 HU1 HG1 HK1 c0 c1 c2 c3 c4 c5 c6 c7 c8 c9 hb;rw [hnk] at c6;rw [hop] at c0;rw [hRES,hnn,hnh,hnms,hnw];have hn1:decide ((n:Int) < (nn:Int))=true:=aT (by omega);have hn2:decide (n < nn)=true:=aT hn;obtain ⟨B,hB⟩:∃ B,w.heap.size=B:=⟨_,rfl⟩;have HW1:=aH (show (w.alloc (.cells #[.slice a.mo nms a.mc,.slice a.no nn a.nc,.slice a.ho nh a.hc,.slice a.wo nw a.wc,.int .i64 gr.st] 27)).heap.size=B + 1 from by rw [<- hB];simp);rw [hB] at HO1;clear hx hg hG hm hu hcap hRES hnn hnh hnms hnw hnk hop hq;go_enter Tryz.func68,Tryz.ntmps68;go_upto_region 1 with fail;generalize w.alloc (.cells #[.slice a.mo nms a.mc,.slice a.no nn a.nc,.slice a.ho nh a.hc,.slice a.wo nw a.wc,.int .i64 gr.st] 27)=w1 at *;try rw [hB]
 clear hB;obtain ⟨g0,g1,g2,g3,g4,gl⟩:=oG HO1.o;rw [HNO.o] at g1;have hbl:Below w1.heap.size w1 (w1.alloc (.cells #[.int .i64 op,.string x.tx,.int .u64 x.s0,.int .u64 x.s1,.int .u64 x.s2,.int .u64 x.s3,.slice ko nk kc,.int .i64 x.tg,.int .i64 (x.mo:Int),.int .i64 x.ru] 45)):=bA _;have HBL:=aH hbl;have HB2:=aH (HB1.o.trans (hbl.mono HB1.o.size));have HM2:=aH (HM1.o.under hbl HM1.o.lt);have HU2:=aH (HU1.o.under hbl HU1.o.lt);have HG2:=aH (HG1.o.below hbl);have HK2:=aH (HK1.o.below hbl);have HO2:=aH (HO1.o.under hbl HO1.o.lt);have HN2:=aH (Own.fresh w1 45 [.int .i64 op,.string x.tx,.int .u64 x.s0,.int .u64 x.s1,.int .u64 x.s2,.int .u64 x.s3,.slice ko nk kc,.int .i64 x.tg,.int .i64 (x.mo:Int),.int .i64 x.ru]);rw [HW1.o] at HN2;clear hbl;go_upto_region 2 with fail;generalize w1.alloc (.cells #[.int .i64 op,.string x.tx,.int .u64 x.s0,.int .u64 x.s1,.int .u64 x.s2,.int .u64 x.s3,.slice ko nk kc,.int .i64 x.tg,.int .i64 (x.mo:Int),.int .i64 x.ru] 45)=w2 at *;try rw [HW1.o]
 have y0:w2.cell? ⟨B + 1,0,none⟩=some (.int .i64 op):=HN2.o.cell 0;have y3:w2.cell? ⟨B + 1,6,none⟩=some (.slice ko nk kc):=HN2.o.cell 6;have yl:=HN2.o.lt;clear c0 c1 c2 c3 c4 c5 c6 c7 c8 c9 g0 g1 g2 g3 g4 gl hb HO1 HM1 HU1 HG1 HK1 HB1;rcases B5b op with rfl | rfl | rfl | rfl | rfl | ⟨h13,h9,h10,h11,h4⟩
 · have HE:=aH (show RES=true from by rw [HRU.o];first | rfl | simp);go_wp2;go_ret;rw [HE.o];exact ⟨rfl,HB2.o⟩
 · have HE:=aH (show RES=false from by rw [HRU.o];first | rfl | simp);go_wp2;go_ret;rw [HE.o];exact ⟨rfl,HB2.o⟩
 · have HE:=aH (show RES=false from by rw [HRU.o];first | rfl | simp);go_wp2;go_ret;rw [HE.o];exact ⟨rfl,HB2.o⟩
 ·
  have HE:=aH (show RES=M q from by rw [HRU.o];first | rfl | simp);obtain ⟨d0,d1,d2,d3,d4,dl⟩:=oG HO2.o;go_wp2_with fail;refine (HBO.o w2 HG2.o).mono ?_;rintro e w3 ⟨he,hb3⟩;subst he;have HM3:=aH (HM2.o.under hb3 HM2.o.lt);have HB3:=aH (HB2.o.trans (hb3.mono HB2.o.size));have hqn:=HQ.o;have m0:w3.cell? ⟨g,q,none⟩=some (.bool (M q)):=by rw [HM3.o.cell q];exact bH M nn q hqn
  have ml:=HM3.o.lt;have hq1:decide ((q:Int) < (nn:Int))=true:=aT (by omega);have hq2:decide (q < nn)=true:=aT hqn;obtain ⟨z,hz⟩:∃ z,M q=z:=⟨_,rfl⟩;rw [hz] at m0 HE;clear hb3 hz;go_wp2;go_ret;rw [HE.o];exact ⟨rfl,HB3.o⟩
 · have HE:=aH (show RES=(eH NU x.ks).any M from by rw [HRU.o];first | rfl | simp);go_wp2_with fail;refine (HFR.o w2 HU2.o HK2.o).mono ?_;rintro e w3 ⟨he,hw3⟩;subst he;subst hw3;have hq:=HON.o w3 (eH NU x.ks).length HM2.o (HK2.o.take _);rw [<- Gt] at hq;have HQ2:=aH hq;clear hq;go_wp2_with fail;refine HQ2.o.mono ?_;rintro e w4 ⟨he,hw3⟩;subst he;subst hw3;go_wp2;go_ret;rw [HE.o];exact ⟨rfl,HB2.o⟩
 ·
  have HE:=aH (show RES=x.ks.any M from by
   simp only [aN] at h13 h9 h10 h11 h4
   rw [HRU.o,if_neg h13,if_neg (fun h=>h.elim h9 h10),if_neg h11,if_neg h4])
  have hq:=HON.o w2 nk HM2.o (HK2.o.take _);rw [List.take_of_length_le (by have:=HNK.o;omega),HNK.o] at hq;have HQ2:=aH hq;clear hq;go_wp2_with fail;refine HQ2.o.mono ?_;rintro e w4 ⟨he,hw3⟩;subst he;subst hw3;go_wp2;go_ret;rw [HE.o];exact ⟨rfl,HB2.o⟩
theorem Uz (gr:Gj) (a:Gv) (hg:Good gr) (w:World) (hG:dG w gr a):Calls Tryz.prog 41 #[grv gr a] w (BoE gr (nH gr) w):=by
 have HB1:=gB w a gr;have HO1:=gO w a gr;have HG1:=aH ((hG.mono (T:=fun b=>b < w.heap.size) (fun _ h _=>h)).below HB1.o);have HNU:=aH (fun W h=>rP gr a hg W h);have HF:=aH (fun (M:Nat->Bool) n u g W hn h1 h2 h3=>B1A gr a hg (aZ gr) M n u g hn W h1 h2 h3);obtain ⟨R,hR⟩:∃ R,Pe gr (aZ gr)=R:=⟨_,rfl⟩;obtain ⟨RES,hRES⟩:∃ z,nH gr=z:=⟨_,rfl⟩;have HR0:=aH (show gK R gr.ns.length (gr.ns.length + 1) (fun _=>false)=RES from by rw [<- hR,<- hRES];rfl);unfold BoE;rw [hRES];rw [hR] at HF;unfold BoE at HNU;unfold grv;unfold grv at HNU HF;obtain ⟨nn,nh,nms,nw,hnn,hnh,hnms,hnw⟩:=nG gr;have hn160:(nn:Int)<=160:=by have:=hg.len;omega
 rw [hnn] at HR0;rw [hnn,hnh,hnms,hnw] at HNU HF HB1 HO1 HG1;rw [hnn,hnh,hnms,hnw];obtain ⟨B,hB⟩:∃ B,w.heap.size=B:=⟨_,rfl⟩;have HW1:=aH (show (w.alloc (.cells #[.slice a.mo nms a.mc,.slice a.no nn a.nc,.slice a.ho nh a.hc,.slice a.wo nw a.wc,.int .i64 gr.st] 27)).heap.size=B + 1 from by rw [<- hB];simp);have HBE:=aH hB;rw [hB] at HO1;clear hg hG hRES hR hnn hnh hnms hnw;have hmk:∀ W:World,(Instr.makeSlice 39 (.int .i64 (nn:Int)) (.int .i64 (nn:Int))).run Tryz.prog W=.ok (.slice (some ⟨W.heap.size,0,none⟩) nn nn) (W.alloc (.cells (Array.replicate nn (Value.bool false)) 4)):=fun W=>mY nn (by omega) W;go_enter Tryz.func41,Tryz.ntmps41;go_upto_region 1 with fail;generalize w.alloc (.cells #[.slice a.mo nms a.mc,.slice a.no nn a.nc,.slice a.ho nh a.hc,.slice a.wo nw a.wc,.int .i64 gr.st] 27)=w1 at *;try rw [hB]
 clear hB;obtain ⟨g0,g1,g2,g3,g4,gl⟩:=oG HO1.o;go_wp2_with fail;refine (HNU.o w1 (HG1.o.mono fun _ _ _=>trivial)).mono ?_;rintro e w2 ⟨u,he,hu,hul,hb2⟩;subst he;have HB2:=aH (HB1.o.trans (hb2.mono HB1.o.size));have HO2:=aH (HO1.o.under hb2 HO1.o.lt);have HG2:=aH (HG1.o.below hb2);have HU2:=aH hu;have HUL:=aH (show B + 1<=u from by have:=HW1.o;omega);clear g0 g1 g2 g3 g4 gl hu hul hb2 HO1 HG1 HB1;have g1:w2.cell? ⟨B,1,none⟩=some (.slice a.no nn a.nc):=HO2.o.cell 1;have gl:=HO2.o.lt;have hbl:Below w2.heap.size w2 (w2.alloc (.cells (Array.replicate nn (Value.bool false)) 4)):=bA _;have HB3:=aH (HB2.o.trans (hbl.mono HB2.o.size));have HG3:=aH (HG2.o.below hbl);have HO3:=aH (HO2.o.under hbl HO2.o.lt);have HU3:=aH (HU2.o.under hbl HU2.o.lt);have HM3:=aH (show Own (w2.alloc (.cells (Array.replicate nn (Value.bool false)) 4)) w2.heap.size 4 (bZ (fun _=>false) nn) from by rw [nT,<- List.toArray_replicate];exact Own.fresh w2 4 _);have HU2l:=aH HU2.o.lt;have HO2l:=aH HO2.o.lt;clear hbl;go_upto_region 4 with fail;obtain ⟨C,hC⟩:∃ C,w2.heap.size=C:=⟨_,rfl⟩;rw [hC] at HM3 HU2l HO2l;generalize w2.alloc (.cells (Array.replicate nn (Value.bool false)) 4)=w3 at *;try rw [hC]
 clear hC g1 gl hmk HO2 HG2 HB2 HU2
 go_loopg [5] (nn + 1) (fun f v5 wr=>∃ (M:Nat->Bool) (z:Bool),v5=.bool z/\aQ (RES=if z=true then gK R nn f M else M)/\aQ (z=true->bF M nn < f)/\aQ (Own wr C 4 (bZ M nn))/\aQ (Own wr B 27 [.slice a.mo nms a.mc,.slice a.no nn a.nc,.slice a.ho nh a.hc,.slice a.wo nw a.wc,.int .i64 gr.st])/\aQ (Own wr u 4 (bZ (aZ gr) nn))/\aQ (mG wr (fun b=>b < w.heap.size) gr a)/\aQ (Below w.heap.size w wr))
 case atStart=>exact ⟨fun _=>false,true,rfl,aH (by rw [if_pos rfl];exact HR0.o.symm),aH (fun _=>by have:=iQ (fun _=>false) nn;omega),HM3,HO3,HU3,HG3,HB3⟩
 case round =>
  obtain ⟨M,z,rfl,HS,HLK,HM,HO,HU,HG,HB⟩:=hrel
  cases z with
  | false =>
   have HE:=aH (show RES=M from by rw [HS.o,if_neg (by decide)]);go_wp2;go_ret;exact ⟨C,rfl,by rw [HE.o];exact HM.o,by have:=HBE.o;have:=HO2l.o;omega,HB.o⟩
  | true =>
   obtain ⟨f,rfl⟩:∃ f,gk=f + 1:=⟨gk - 1,by have:=HLK.o rfl;omega⟩;have HS1:=aH (show RES=gK R nn (f + 1) M from by rw [HS.o,if_pos rfl]);have HL1:=aH (HLK.o rfl);clear HM3 HO3 HG3 HB3 HU3 HS HLK;have g1:wr.cell? ⟨B,1,none⟩=some (.slice a.no nn a.nc):=HO.o.cell 1;have gl:=HO.o.lt;go_wp2_with fail
   go_loopg [5,17] nn (fun j v5 v17 wx=>∃ (k:Nat) (M1:Nat->Bool) (z:Bool),v5=.bool z/\v17=.int .i64 (k:Int)/\k + j=nn/\aQ (dP R nn 0 M false=dP R (nn - k) k M1 z)/\aQ (bF M1 nn + (if z=true then 1 else 0)<=bF M nn)/\aQ (Own wx C 4 (bZ M1 nn))/\aQ (Own wx B 27 [.slice a.mo nms a.mc,.slice a.no nn a.nc,.slice a.ho nh a.hc,.slice a.wo nw a.wc,.int .i64 gr.st])/\aQ (Own wx u 4 (bZ (aZ gr) nn))/\aQ (mG wx (fun b=>b < w.heap.size) gr a)/\aQ (Below w.heap.size w wx))
   case atStart=>exact ⟨0,M,false,rfl,rfl,by omega,aH rfl,aH (Nat.le_refl _),HM,HO,HU,HG,HB⟩
   case round =>
    obtain ⟨k,M1,z,rfl,rfl,hkj,HP,HL,HMx,HOx,HUx,HGx,HBx⟩:=hrel;clear HM HO HG HB HU g1 gl;by_cases hk:k < nn
    ·
     obtain ⟨j,rfl⟩:∃ j,gk=j + 1:=⟨gk - 1,by omega⟩;have hk1:decide ((k:Int) < (nn:Int))=true:=aT (by omega);have hk2:decide (k < nn)=true:=aT hk;have hw1:IntKind.i64.wrap ((k:Int) + 1)=(k:Int) + 1:=wI;have m0:wr.cell? ⟨C,k,none⟩=some (.bool (M1 k)):=(by rw [HMx.o.cell k];exact bH M1 nn k hk);have ml:=HMx.o.lt;obtain ⟨g0,g1,g2,g3,g4,gl⟩:=oG HOx.o;obtain ⟨b1,hb1⟩:∃ z,M1 k=z:=⟨_,rfl⟩;have HBK:=aH hb1;rw [hb1] at m0;clear hb1
     cases b1 with
     | true =>
      have HPN:=aH (show dP R nn 0 M false=dP R (nn - (k + 1)) (k + 1) M1 z from HP.o.trans (mW hk (by rw [HBK.o];rfl)));go_wp2
      go_roundg j
      case measure=>omega
      case rel=>exact ⟨k + 1,M1,z,rfl,by go_num,by omega,HPN,HL,HMx,HOx,HUx,HGx,HBx⟩
     | false =>
      have HC:=aH (HF.o M1 k u C wr hk (HGx.o.mono fun _ _ _=>trivial) HUx.o HMx.o);go_wp2_with fail;refine HC.o.mono ?_;rintro e wy ⟨he,hby⟩;subst he;have HMy:=aH (HMx.o.under hby HMx.o.lt);have HOy:=aH (HOx.o.under hby HOx.o.lt);have HUy:=aH (HUx.o.under hby HUx.o.lt);have HGy:=aH (HGx.o.below hby);have HBy:=aH (HBx.o.trans (hby.mono HBx.o.size));clear hby HMx HOx HUx HGx HBx g0 g1 g2 g3 g4 gl m0 ml HC;obtain ⟨r,hr⟩:∃ z,R M1 k=z:=⟨_,rfl⟩;have HRK:=aH hr;rw [hr];clear hr
      cases r with
      | false =>
       have HPN:=aH (show dP R nn 0 M false=dP R (nn - (k + 1)) (k + 1) M1 z from HP.o.trans (mW hk (by rw [HBK.o,HRK.o];rfl)));go_wp2
       go_roundg j
       case measure=>omega
       case rel=>exact ⟨k + 1,M1,z,rfl,by go_num,by omega,HPN,HL,HMy,HOy,HUy,HGy,HBy⟩
      | true =>
       have HPN:=aH (show dP R nn 0 M false=dP R (nn - (k + 1)) (k + 1) (dC M1 k) true from HP.o.trans (Bp hk HBK.o HRK.o))
       have HLN:=aH (show bF (dC M1 k) nn + (if true=true then 1 else 0)<=bF M nn from by
        have h1:=iR M1 k HBK.o nn;have h2:=gZ M1 k HBK.o nn hk;rw [if_pos hk] at h1;have h3:=HL.o;rw [h1,if_pos rfl]
        omega)
       have m0:wy.cell? ⟨C,k,none⟩=some (.bool false):=(by rw [HMy.o.cell k,bH M1 nn k hk,HBK.o]);have f0:wy.frozen? ⟨C,k,none⟩=false:=HMy.o.thaw k;have ml:=HMy.o.lt;have hbt:But (fun j=>j=C) wy (wy.setCell ⟨C,k,none⟩ (.bool true)):=(But.refl (fun j=>j=C) wy).setCell (p:=⟨C,k,none⟩) (fun _=>rfl) _;have HMz:=aH (show Own (wy.setCell ⟨C,k,none⟩ (.bool true)) C 4 (bZ (dC M1 k) nn) from by rw [<- qX M1 nn k hk];exact HMy.o.put k (.bool true));have HOz:=aH (HOy.o.but hbt (by have:=HO2l.o;show ¬ B=C;omega));have HUz:=aH (HUy.o.but hbt (by have:=HU2l.o;show ¬ u=C;omega));have HGz:=aH (HGy.o.but hbt (fun j _ hj h=>by have:=HBE.o;have:=HO2l.o;have:j=C:=h;omega));have HBz:=aH (HBy.o.trans (hbt.below (B:=w.heap.size) HBy.o.size (fun j h=>by have:=HBE.o;have:=HO2l.o;omega)));clear hbt;go_wp2
       go_roundg j
       case measure=>omega
       case rel=>exact ⟨k + 1,dC M1 k,true,rfl,by go_num,by omega,HPN,HLN,HMz,HOz,HUz,HGz,HBz⟩
    ·
     have hk1:decide ((k:Int) < (nn:Int))=false:=aF (by omega);have hk2:decide (k < nn)=false:=aF hk;have HP2:=aH (show dP R nn 0 M false=(M1,z) from HP.o.trans (by rw [show nn - k=0 by omega];rfl))
     have HSN:=aH (show RES=if z=true then gK R nn f M1 else M1 from by
      rw [HS1.o]
      show (match dP R nn 0 M false with
       | (M',true)=>gK R nn f M'
       | (M',false)=>M')=_
      rw [HP2.o]
      cases z <;> rfl)
     have HLN:=aH (show z=true->bF M1 nn < f from fun h=>by
      have h1:=HL.o;have h2:=HL1.o;rw [if_pos h] at h1
      omega)
     go_wp2
     go_roundg f
     case measure=>omega
     case rel=>exact ⟨M1,z,rfl,HSN,HLN,HMx,HOx,HUx,HGx,HBx⟩
end Go.Proofs.YthddifjhoniacaaGreat
