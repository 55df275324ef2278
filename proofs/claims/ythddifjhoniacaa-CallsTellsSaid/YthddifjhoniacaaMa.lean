import Derived.Test.YthddifjhoniacaaGc
import Derived.Test.YthddifjhoniacaaIj
import Derived.Test.YthddifjhoniacaaHu
import Derived.Deep.CutBlock
import Derived.Test.YthddifjhoniacaaId
import Derived.Deep.LoopGhost
namespace Go.Proofs.Ythddifjhoniacaa
set_option linter.unusedVariables false
open Go.RowKit Go.Sort
def putL:List Int->Int->List Int
 | [],n=>[n]
 | x :: r,n=>if x < n then x :: putL r n else if x=n then x :: r else n :: x :: r
theorem putL_at:∀ (L:List Int) (n:Int) (k:Nat),k<=L.length->(∀ i,i < k->L.getD i 0 < n)->(k < L.length->¬ L.getD k 0 < n)->((k < L.length/\L.getD k 0=n)->putL L n=L)/\(¬ (k < L.length/\L.getD k 0=n)->putL L n=L.take k ++ n :: L.drop k)
 | [],n,k,hk,h1,h2=>by
  have hk:k=0:=by simpa using hk
  subst hk;exact ⟨fun h=>absurd h.1 (Nat.not_lt_zero _),fun _=>rfl⟩
 | x :: r,n,0,hk,h1,h2=>by
  have hx:¬ x < n:=h2 (by simp);unfold putL;rw [if_neg hx];constructor
  · rintro ⟨_,e⟩;have e:x=n:=e;rw [if_pos e]
  · intro hno;rw [if_neg (show ¬ x=n from fun e=>hno ⟨by simp,e⟩)];rfl
 | x :: r,n,k + 1,hk,h1,h2=>by
  have hx:x < n:=h1 0 (by omega);obtain ⟨g1,g2⟩:=putL_at r n k (by simpa using hk) (fun i hi=>h1 (i + 1) (by omega)) (fun h=>h2 (by simpa using h));unfold putL;rw [if_pos hx];constructor
  · rintro ⟨a,e⟩;rw [g1 ⟨by simpa using a,e⟩]
  · intro hno;rw [g2 (fun ⟨a,e⟩=>hno ⟨by simpa using a,e⟩)];rfl
theorem putL_len (n:Int):∀ (L:List Int),(putL L n).length<=L.length + 1
 | []=>Nat.le_refl _
 | x :: r=>by
  have:=putL_len n r;unfold putL;split
  · simp;exact this
  split <;> simp
theorem putL_mem (n:Int):∀ (l:List Int) (y:Int),y ∈ putL l n ↔ y=n\/y ∈ l
 | [],y=>by unfold putL;simp
 | x :: r,y=>by
  have ih:=putL_mem n r y;unfold putL;split
  ·
   rw [List.mem_cons,ih,List.mem_cons];constructor
   · rintro (h | h | h) <;> simp [h]
   · rintro (h | h | h) <;> simp [h]
  split
  ·
   next e =>
   subst e;rw [List.mem_cons];constructor
   · rintro (h | h) <;> simp [h]
   · rintro (h | h | h) <;> simp [h]
  · rw [List.mem_cons,List.mem_cons]
def RisL:List Int->Prop
 | []=>True
 | x :: r=>(∀ y ∈ r,x < y)/\RisL r
theorem RisL.put (n:Int):∀ {l:List Int},RisL l->RisL (putL l n)
 | [],h=>by unfold putL;exact ⟨fun y hy=>by simp at hy,trivial⟩
 | x :: r,h=>by
  unfold putL;split
  ·
   next hx =>
   refine ⟨fun y hy=>?_,RisL.put n h.2⟩;rcases (putL_mem n r y).1 hy with rfl | hy
   · exact hx
   · exact h.1 y hy
  split
  · exact h
  ·
   next h1 h2 =>
   refine ⟨fun y hy=>?_,h⟩;rcases List.mem_cons.1 hy with rfl | hy
   · omega
   · have:=h.1 y hy;omega
theorem RisL.step:∀ {l:List Int} (h:RisL l) {k:Nat} {x y:Int},l[k]?=some x->l[k + 1]?=some y->x < y
 | [],_,k,x,y,h1,h2=>by simp at h1
 | z :: r,h,0,x,y,h1,h2=>by simp at h1;subst h1;exact h.1 y (aM (by simpa using h2))
 | z :: r,h,k + 1,x,y,h1,h2=>RisL.step h.2 (k:=k) (by simpa using h1) (by simpa using h2)
theorem RisL.ext:∀ {a b:List Int},RisL a->RisL b->(∀ x,x ∈ a ↔ x ∈ b)->a=b
 | [],[],_,_,_=>rfl
 | [],y :: b,_,_,h=>by have:=(h y).2 (List.mem_cons_self ..);simp at this
 | x :: a,[],_,_,h=>by have:=(h x).1 (List.mem_cons_self ..);simp at this
 | x :: a,y :: b,ha,hb,h=>by
  have e:x=y:=by
   have h1:=(h x).1 (List.mem_cons_self ..);have h2:=(h y).2 (List.mem_cons_self ..);rcases List.mem_cons.1 h1 with h1 | h1
   · exact h1
   rcases List.mem_cons.1 h2 with h2 | h2
   · exact h2.symm
   have:=ha.1 y h2;have:=hb.1 x h1;omega
  subst e;rw [RisL.ext ha.2 hb.2 fun z=>⟨fun hz=>?_,fun hz=>?_⟩]
  ·
   rcases List.mem_cons.1 ((h z).1 (List.mem_cons_of_mem _ hz)) with e | h1
   · subst e;exact absurd (ha.1 _ hz) (Int.lt_irrefl _)
   · exact h1
  ·
   rcases List.mem_cons.1 ((h z).2 (List.mem_cons_of_mem _ hz)) with e | h1
   · subst e;exact absurd (hb.1 _ hz) (Int.lt_irrefl _)
   · exact h1
def frontL (NU:Nat->Bool):List Nat->List Nat
 | []=>[]
 | k :: r=>if NU k=true then k :: frontL NU r else [k]
theorem frontL_sub (NU:Nat->Bool):∀ (L:List Nat) (x:Nat),x ∈ frontL NU L->x ∈ L
 | [],x,h=>by cases h
 | k :: r,x,h=>by
  unfold frontL at h;split at h
  ·
   rcases List.mem_cons.1 h with rfl | h
   · exact List.mem_cons_self ..
   · exact List.mem_cons_of_mem _ (frontL_sub NU r x h)
  ·
   rcases List.mem_cons.1 h with rfl | h
   · exact List.mem_cons_self ..
   · cases h
def ledB (gr:Gj) (NU:Nat->Bool) (M:Nat->Bool) (n:Nat):Bool:=match gr.ns[n]? with
 | none=>false
 | some x=>if x.op=13 then true else if x.op=9\/x.op=10 then false else if x.op=11 then M (bodyG gr n) else if x.op=4 then (frontL NU x.ks).any M else x.ks.any M
def ledG (gr:Gj):Nat->Bool:=leastB (ledB gr (nulG gr)) gr.ns.length (gr.ns.length + 1) (fun _=>false)
def termB (gr:Gj) (n:Nat):Bool:=match gr.ns[n]? with
 | none=>false
 | some x=>if x.op=11\/x.op=9\/x.op=10 then false else x.ks.isEmpty || ((x.op == 4 || x.op == 5) && !ledG gr n)
def nextL (gr:Gj) (n:Nat):List Nat:=match gr.ns[n]? with
 | none=>[]
 | some x=>if x.op=11 then [bodyG gr n] else if x.op=9\/x.op=10 then [] else if (x.ks.isEmpty || ((x.op == 4 || x.op == 5) && !ledG gr n))=true then [] else if x.op=4 then frontL (nulG gr) x.ks else x.ks
abbrev Fst:=(Nat->Bool) × List Int
def eachF (V:Nat->Fst->Fst):List Nat->Fst->Fst
 | [],s=>s
 | k :: r,s=>eachF V r (V k s)
def visF (gr:Gj):Nat->Nat->Fst->Fst
 | 0,_,s=>s
 | d + 1,n,s=>if s.1 n=true then s else eachF (visF gr d) (nextL gr n) (setB s.1 n,if termB gr n=true then putL s.2 (n:Int) else s.2)
def leadG (gr:Gj) (n:Nat):List Int:=(visF gr (gr.ns.length + 1) n (fun _=>false,[])).2
theorem setB_more (M:Nat->Bool) (n:Nat):∀ j,M j=true->setB M n j=true:=fun j h=>by unfold setB;split;rfl;exact h
theorem eachF_ind {V:Nat->Fst->Fst} (P:Fst->Prop) (hV:∀ k s,P s->P (V k s)):∀ (L:List Nat) (s:Fst),P s->P (eachF V L s)
 | [],s,h=>h
 | k :: r,s,h=>eachF_ind P hV r (V k s) (hV k s h)
theorem eachF_inl {V:Nat->Fst->Fst} {T:Nat->Prop} (P:Fst->Prop) (hV:∀ k s,T k->P s->P (V k s)):∀ (L:List Nat) (s:Fst),(∀ k ∈ L,T k)->P s->P (eachF V L s)
 | [],s,_,h=>h
 | k :: r,s,ht,h=>eachF_inl P hV r (V k s) (fun j hj=>ht j (List.mem_cons_of_mem _ hj)) (hV k s (ht k (List.mem_cons_self ..)) h)
theorem visF_more (gr:Gj):∀ (d n:Nat) (s:Fst) (j:Nat),s.1 j=true->(visF gr d n s).1 j=true
 | 0,n,s,j,h=>h
 | d + 1,n,s,j,h=>by
  unfold visF;split
  · exact h
  · exact eachF_ind (fun t=>t.1 j=true) (fun k t ht=>visF_more gr d k t j ht) _ _ (setB_more _ _ _ h)
theorem lackB_mono {M M':Nat->Bool} (h:∀ j,M j=true->M' j=true):∀ N,lackB M' N<=lackB M N
 | 0=>Nat.le_refl _
 | N + 1=>by
  have:=lackB_mono h N;unfold lackB
  cases hm:M N
  · cases M' N <;> simp <;> omega
  · rw [h N hm];simp;exact this
theorem lackB_step {M:Nat->Bool} {n N d:Nat} (hn:n < N) (hm:M n=false) (h:lackB M N < d + 1):lackB (setB M n) N < d:=by have h1:=lackB_set M n hm N;have h2:=lackB_one M n hm N hn;rw [if_pos hn] at h1;omega
theorem nextL_lt {gr:Gj} (hg:Good gr) (hb:∀ n,n < gr.ns.length->bodyG gr n < gr.ns.length) {n:Nat} (hn:n < gr.ns.length):∀ k ∈ nextL gr n,k < gr.ns.length:=fun k hk=>by
 unfold nextL at hk
 cases hx:gr.ns[n]? with
 | none=>rw [hx] at hk;cases hk
 | some x =>
  rw [hx] at hk;have hk:k ∈ (if x.op=11 then [bodyG gr n] else if x.op=9\/x.op=10 then [] else if (x.ks.isEmpty || ((x.op == 4 || x.op == 5) && !ledG gr n))=true then [] else if x.op=4 then frontL (nulG gr) x.ks else x.ks):=hk;have hkid:=hg.kid x (aM hx);split at hk
  · rw [List.mem_singleton] at hk;subst hk;exact hb n hn
  split at hk
  · cases hk
  split at hk
  · cases hk
  split at hk
  · exact hkid k (frontL_sub _ _ _ hk)
  · exact hkid k hk
inductive Rch (gr:Gj):Nat->Nat->Prop
 | refl (n:Nat):Rch gr n n
 | step {n k y:Nat}:k ∈ nextL gr n->Rch gr k y->Rch gr n y
theorem Rch.tail {gr:Gj} {n y z:Nat} (h:Rch gr n y) (hz:z ∈ nextL gr y):Rch gr n z:=by
 induction h with
 | refl n=>exact .step hz (.refl z)
 | step hk _ ih=>exact .step hk (ih hz)
theorem Src.zero (A:Option Addr) (c:Nat) (W:World):Src Try.prog 1 23 (.slice A 0 c) 0 [] W:=by
 cases A with
 | none=>exact Src.ofNil W Try.underlying23 c
 | some a=>exact Src.ofSlice W Try.underlying23 a 0 c [] rfl (fun j u h=>by simp at h) (fun u h=>by simp at h)
set_option maxRecDepth 1000000 in
set_option maxHeartbeats 3200000 in
theorem pput_any (L:List Int) (j:Int) (hl:L.length<=1000) (v:Value) (C:Nat) (w:World) (hv:IntsAt w C v L) :
  Calls Try.prog 39 #[v,.int .i64 j] w fun e w'=>∃ v',e=.returned v'/\IntsAt w' w.heap.size v' (putL L j)/\Below w.heap.size w w':=by
 have HP:=aH (fun k=>putL_at L j k);have hsl:(L.length:Int)<=1000:=by omega
 obtain ⟨RES,hR⟩:∃ R,putL L j=R:=⟨_,rfl⟩;rw [hR] at HP ⊢;clear hR hl;obtain ⟨ao,cap,rfl,hcap,hcell⟩:=hv;have HCELL:=aH hcell;obtain ⟨m,hm⟩:∃ m,L.length=m:=⟨_,rfl⟩;have HM:=aH hm;rw [hm] at hcap hsl;rw [hm];clear hcell hm;obtain ⟨i0,hi,hz0,hz1,hz2⟩:=info_parts info_int;have IP:=aH (And.intro hi (And.intro hz0 (And.intro hz1 hz2)));clear hi hz0 hz1 hz2
 have HMK:=aH (show ∀ W:World,(Instr.makeSlice 23 (.int .i64 0) (.int .i64 ((m:Int) + 1))).run Try.prog W=.ok (.slice (some ⟨W.heap.size,0,none⟩) 0 (m + 1)) (W.alloc (.cells (madeCells #[.int .i64 0] (m + 1)) 3)) from fun W=>by
  have h:=run_make (P:=Try.prog) W 23 3 i0 (.int .i64 0) Try.underlying23 IP.o.1 IP.o.2.1 .i64 .i64 0 ((m:Int) + 1) (Int.le_refl _) (by omega) (by rw [IP.o.2.2.2];omega) (by omega);rw [IP.o.2.2.1,show ((m:Int) + 1).toNat=m + 1 by omega,Nat.mul_one] at h
  exact h)
 go_enter Try.func39,Try.ntmps39;go_wp2_with fail
 go_loopw [5] (fun b5 wr=>∃ k:Nat,b5=.int .i64 (k:Int)/\(k:Int)<=m/\aQ (∀ i,i < k->L.getD i 0 < j)/\w=wr) (fun b5 _=>m - (intOf b5).toNat)
 case atStart=>exact ⟨0,rfl,by omega,aH (fun i hi=>by omega),rfl⟩
 case round =>
  obtain ⟨k,rfl,hk,HK,rfl⟩:=hrel;have hw1:IntKind.i64.wrap ((k:Int) + 1)=(k:Int) + 1:=wI;have hwm:IntKind.i64.wrap ((m:Int) + 1)=(m:Int) + 1:=wI;have hkc:(k:Int)<=cap:=by omega
  have hkc':k<=cap:=by omega
  have hkm:k<=m:=by omega
  by_cases h1:(k:Int) < m
  ·
   obtain ⟨g,off,rfl,hg,hgC,hc⟩:=HCELL.o k (by have:=HM.o;omega);obtain ⟨y,hy⟩:∃ y,L.getD k 0=y:=⟨_,rfl⟩;have HY:=aH hy;rw [hy] at hc;clear hy;by_cases h2:y < j
   ·
    have HE:=aH (show ∀ i,i < k + 1->L.getD i 0 < j from fun i hi=>by
     by_cases e:i=k
     · subst e;rw [HY.o];exact h2
     · exact HK.o i (by omega))
    go_wp2
    go_roundw
    case rel=>exact ⟨k + 1,by go_num,by omega,HE,trivial⟩
    case measure=>simp [intOf];omega
   ·
    have HPK:=aH (HP.o k (by have:=HM.o;omega) HK.o (fun _=>by rw [HY.o];omega));have h2':decide (y < j)=false:=aF h2;by_cases h3:y=j
    ·
     have hkx:RES=L:=HPK.o.1 ⟨by have:=HM.o;omega,by rw [HY.o];exact h3⟩;subst h3;clear h2 HK HPK;go_wp2_with fail;have HX:=aH hkx;clear hkx;refine wp_region_any (by kernel_rfl) ?_;try (change wpAny _ _ _ _ _ _ _ (World.drew _))
     refine wpAny_take (i:=0) (v:=?_) rfl (by kernel_rfl) (by kernel_rfl) (by kernel_rfl) (fun _ _ _ h=>h) (Or.inl ⟨by rfl,?_⟩) ?_;rotate_left
     · intro w;go_simp;try with_reducible rfl
     go_simp;refine wpAny_take (i:=1) (v:=?_) rfl (by kernel_rfl) (by kernel_rfl) (by kernel_rfl) (fun _ _ _ h=>h) (Or.inl ⟨by rfl,?_⟩) ?_;rotate_left
     · intro w;go_simp;try with_reducible rfl
     go_simp;refine wpAny_take (i:=2) (v:=?_) rfl (by kernel_rfl) (by kernel_rfl) (by kernel_rfl) (fun _ _ _ h=>h) (Or.inl ⟨by rfl,?_⟩) ?_;rotate_left
     · intro w;go_simp;try with_reducible rfl
     go_simp;refine wpAny_take (i:=4) (v:=?_) rfl (by kernel_rfl) (by kernel_rfl) (by kernel_rfl) (fun _ _ _ h=>h) (Or.inl ⟨by rfl,?_⟩) ?_;rotate_left
     · intro w;go_simp;try with_reducible rfl
     go_simp;refine wpAny_take (i:=5) (v:=?_) rfl (by kernel_rfl) (by kernel_rfl) (by kernel_rfl) (fun _ _ _ h=>h) (Or.inl ⟨by rfl,?_⟩) ?_;rotate_left
     · intro w;go_simp;try with_reducible rfl
     go_simp;refine wpAny_take (i:=6) (v:=?_) rfl (by kernel_rfl) (by kernel_rfl) (by kernel_rfl) (fun _ _ _ h=>h) (Or.inl ⟨by rfl,?_⟩) ?_;rotate_left
     · intro w;go_simp;try with_reducible rfl
     go_simp;refine all_one (i:=3) (by kernel_rfl) (op_value (v:=.slice (some ⟨w.heap.size,0,none⟩) 0 (m + 1)) (w':=w.drew.alloc (.cells (madeCells #[.int .i64 0] (m + 1)) 3)) rfl (by kernel_rfl) ?_ ?_)
     · go_simp;rw [HMK.o];rfl
     have hb1:Below w.heap.size w (w.drew.alloc (.cells (madeCells #[.int .i64 0] (m + 1)) 3)):=((Below.refl _ _).drew).alloc (Nat.le_refl _) _;have HWZ:=aH (show Win (fun b=>w.heap.size<=b) 3 1 (w.drew.alloc (.cells (madeCells #[.int .i64 0] (m + 1)) 3)) (.slice (some ⟨w.heap.size,0,none⟩) 0 (m + 1)) 0 [] from ⟨by simp,.inr ⟨w.heap.size,0,m + 1,_,rfl,Nat.le_refl _,heap_alloc_new w.drew _,Nat.zero_le _,by unfold maxLen;omega,by simp [size_madeCells],by simp⟩⟩);have hs:Src Try.prog 1 23 (.slice (some (⟨g,off,none⟩:Addr)) k cap) k ((L.take k).map (Value.int .i64)) (w.drew.alloc (.cells (madeCells #[.int .i64 0] (m + 1)) 3)):=by
      have hh:=Src.ofInts (w:=w.drew.alloc (.cells (madeCells #[.int .i64 0] (m + 1)) 3)) (C:=C) (ao:=some (⟨g,off,none⟩:Addr)) (cap:=cap) (L:=L.take k) (fun i hi=>by
       have hi2:i < k/\i < L.length:=(by simp at hi;omega);obtain ⟨g',off',e',hg',hgC',hc'⟩:=HCELL.o i hi2.2;refine ⟨g',off',e',aL hg' hb1.size,hgC',?_⟩
       rw [keepc hc' hb1,List.getD_eq_getElem?_getD,List.getD_eq_getElem?_getD,List.getElem?_take,if_pos hi2.1])
      rw [show (L.take k).length=k by have:=HM.o;simp;omega] at hh;exact hh
     refine all_one (i:=7) (by kernel_rfl) ?_;refine op_append rfl (by kernel_rfl) (.tmp 24) (.tmp 27) 23 23 rfl (fun b=>w.heap.size<=b) 3 i0 _ 1 8 Try.underlying23 IP.o.1 IP.o.2.1 IP.o.2.2.1 IP.o.2.2.2 rfl (by decide) _ 0 [] rfl HWZ.o _ k _ rfl hs (by unfold maxLen;omega) (by omega) ?_;intro v2 W2 h2w b2;have hI2:Below w.heap.size w W2:=hb1.trans (b2.below hb1.size (fun g h=>h));have h2x:=h2w.mono (T:=fun g=>w.heap.size<=g) (fun g _ hg=>by rcases hg with hg | hg;exact hg;exact Nat.le_trans hb1.size hg);rw [Nat.zero_add,List.nil_append] at h2x;have H2:=aH h2x;have HI2:=aH hI2;clear h2w b2 h2x hs hb1 HWZ;go_simp;refine wpAny_take (i:=8) (v:=?_) rfl (by kernel_rfl) (by kernel_rfl) (by kernel_rfl) (fun _ _ _ h=>h) (Or.inl ⟨by rfl,?_⟩) ?_;rotate_left
     · intro w;go_simp;try with_reducible rfl
     go_simp;refine wpAny_done (by kernel_rfl) ?_ _;have hkm1:((k:Int) == (m:Int))=false:=aN.2 (by omega);have hck:¬ cap=k:=(by omega);have hcc:=keepc hc HI2.o;have hg2:=World.block_lt_of_cell? W2 _ hcc;go_upto_region 7 with fail;have hs3:Src Try.prog 1 23 (.slice (if cap=k then (some (⟨g,off,none⟩:Addr)) else (some (⟨g,off,none⟩:Addr)).map (·.add k)) (m - k) (cap - k)) (m - k) ((L.drop k).map (Value.int .i64)) W2:=by
      have hh:=Src.ofDrop (w:=W2) (C:=C) (ao:=some (⟨g,off,none⟩:Addr)) (cap:=cap) (k:=k) (L:=L) (by have:=HM.o;omega) (by have:=HM.o;omega) (fun i hi=>by
       obtain ⟨g',off',e',hg',hgC',hc'⟩:=HCELL.o i hi
       exact ⟨g',off',e',aL hg' HI2.o.size,hgC',keepc hc' HI2.o⟩)
      rw [HM.o] at hh;exact hh
     try rw [if_neg hck] at hs3
     try simp only [Option.map_some,Addr.add_lit] at hs3
     go_wp2_with (first
      | (at_builtin;refine wpList_append_src _ rfl _ _ 23 23 rfl (fun b=>w.heap.size<=b) 3 i0 _ 1 8 Try.underlying23 IP.o.1 IP.o.2.1 IP.o.2.2.1 IP.o.2.2.2 rfl (by decide) v2 k _ rfl H2.o _ (m - k) _ rfl hs3 (by unfold maxLen;omega) (by omega) ?_))
     intro v3 W3 h3 b3;have hI3:Below w.heap.size w W3:=HI2.o.trans (b3.below HI2.o.size (fun g h=>h));have h3':=h3.mono (T:=fun g=>w.heap.size<=g) (fun g _ hg=>by rcases hg with hg | hg;exact hg;exact Nat.le_trans HI2.o.size hg);clear h3 hs3;go_wp2;go_ret;refine ⟨v3,rfl,?_,hI3⟩;rw [HX.o];exact Win.ints (n:=m) (L:=L) HM.o (by first | exact h3' | (rw [<- List.map_append,List.take_append_drop,show k + (m - k)=m by omega] at h3';exact h3'))
    ·
     have hkx:RES=L.take k ++ j :: L.drop k:=HPK.o.2 (fun ⟨_,e⟩=>by rw [HY.o] at e;exact h3 e);have h3':(y == j)=false:=aN.2 h3;have h3'':(y != j)=true:=bne_iff_ne.2 h3;clear h2 h3 HK HPK;go_wp2_with fail;have HX:=aH hkx;clear hkx;refine wp_region_any (by kernel_rfl) ?_;try (change wpAny _ _ _ _ _ _ _ (World.drew _))
     refine wpAny_take (i:=0) (v:=?_) rfl (by kernel_rfl) (by kernel_rfl) (by kernel_rfl) (fun _ _ _ h=>h) (Or.inl ⟨by rfl,?_⟩) ?_;rotate_left
     · intro w;go_simp;try with_reducible rfl
     go_simp;refine wpAny_take (i:=1) (v:=?_) rfl (by kernel_rfl) (by kernel_rfl) (by kernel_rfl) (fun _ _ _ h=>h) (Or.inl ⟨by rfl,?_⟩) ?_;rotate_left
     · intro w;go_simp;try with_reducible rfl
     go_simp;refine wpAny_take (i:=2) (v:=?_) rfl (by kernel_rfl) (by kernel_rfl) (by kernel_rfl) (fun _ _ _ h=>h) (Or.inl ⟨by rfl,?_⟩) ?_;rotate_left
     · intro w;go_simp;try with_reducible rfl
     go_simp;refine wpAny_take (i:=4) (v:=?_) rfl (by kernel_rfl) (by kernel_rfl) (by kernel_rfl) (fun _ _ _ h=>h) (Or.inl ⟨by rfl,?_⟩) ?_;rotate_left
     · intro w;go_simp;try with_reducible rfl
     go_simp;refine wpAny_take (i:=5) (v:=?_) rfl (by kernel_rfl) (by kernel_rfl) (by kernel_rfl) (fun _ _ _ h=>h) (Or.inl ⟨by rfl,?_⟩) ?_;rotate_left
     · intro w;go_simp;try with_reducible rfl
     go_simp;refine wpAny_take (i:=6) (v:=?_) rfl (by kernel_rfl) (by kernel_rfl) (by kernel_rfl) (fun _ _ _ h=>h) (Or.inl ⟨by rfl,?_⟩) ?_;rotate_left
     · intro w;go_simp;try with_reducible rfl
     go_simp;refine all_one (i:=3) (by kernel_rfl) (op_value (v:=.slice (some ⟨w.heap.size,0,none⟩) 0 (m + 1)) (w':=w.drew.alloc (.cells (madeCells #[.int .i64 0] (m + 1)) 3)) rfl (by kernel_rfl) ?_ ?_)
     · go_simp;rw [HMK.o];rfl
     have hb1:Below w.heap.size w (w.drew.alloc (.cells (madeCells #[.int .i64 0] (m + 1)) 3)):=((Below.refl _ _).drew).alloc (Nat.le_refl _) _;have HWZ:=aH (show Win (fun b=>w.heap.size<=b) 3 1 (w.drew.alloc (.cells (madeCells #[.int .i64 0] (m + 1)) 3)) (.slice (some ⟨w.heap.size,0,none⟩) 0 (m + 1)) 0 [] from ⟨by simp,.inr ⟨w.heap.size,0,m + 1,_,rfl,Nat.le_refl _,heap_alloc_new w.drew _,Nat.zero_le _,by unfold maxLen;omega,by simp [size_madeCells],by simp⟩⟩);have hs:Src Try.prog 1 23 (.slice (some (⟨g,off,none⟩:Addr)) k cap) k ((L.take k).map (Value.int .i64)) (w.drew.alloc (.cells (madeCells #[.int .i64 0] (m + 1)) 3)):=by
      have hh:=Src.ofInts (w:=w.drew.alloc (.cells (madeCells #[.int .i64 0] (m + 1)) 3)) (C:=C) (ao:=some (⟨g,off,none⟩:Addr)) (cap:=cap) (L:=L.take k) (fun i hi=>by
       have hi2:i < k/\i < L.length:=(by simp at hi;omega);obtain ⟨g',off',e',hg',hgC',hc'⟩:=HCELL.o i hi2.2;refine ⟨g',off',e',aL hg' hb1.size,hgC',?_⟩
       rw [keepc hc' hb1,List.getD_eq_getElem?_getD,List.getD_eq_getElem?_getD,List.getElem?_take,if_pos hi2.1])
      rw [show (L.take k).length=k by have:=HM.o;simp;omega] at hh;exact hh
     refine all_one (i:=7) (by kernel_rfl) ?_;refine op_append rfl (by kernel_rfl) (.tmp 24) (.tmp 27) 23 23 rfl (fun b=>w.heap.size<=b) 3 i0 _ 1 8 Try.underlying23 IP.o.1 IP.o.2.1 IP.o.2.2.1 IP.o.2.2.2 rfl (by decide) _ 0 [] rfl HWZ.o _ k _ rfl hs (by unfold maxLen;omega) (by omega) ?_;intro v2 W2 h2w b2;have hI2:Below w.heap.size w W2:=hb1.trans (b2.below hb1.size (fun g h=>h));have h2x:=h2w.mono (T:=fun g=>w.heap.size<=g) (fun g _ hg=>by rcases hg with hg | hg;exact hg;exact Nat.le_trans hb1.size hg);rw [Nat.zero_add,List.nil_append] at h2x;have H2:=aH h2x;have HI2:=aH hI2;clear h2w b2 h2x hs hb1 HWZ;go_simp;refine wpAny_take (i:=8) (v:=?_) rfl (by kernel_rfl) (by kernel_rfl) (by kernel_rfl) (fun _ _ _ h=>h) (Or.inl ⟨by rfl,?_⟩) ?_;rotate_left
     · intro w;go_simp;try with_reducible rfl
     go_simp;refine wpAny_done (by kernel_rfl) ?_ _;have hkm1:((k:Int) == (m:Int))=false:=aN.2 (by omega);have hck:¬ cap=k:=(by omega);have hcc:=keepc hc HI2.o;have hg2:=World.block_lt_of_cell? W2 _ hcc;have hnew:∀ W:World,Src Try.prog 1 23 (.slice (some ⟨W.heap.size,0,none⟩) 1 1) 1 [.int .i64 j] (W.alloc (.cells #[.int .i64 j] 3)):=fun W=>Src.ofSlice _ Try.underlying23 ⟨W.heap.size,0,none⟩ 1 1 [.int .i64 j] rfl (fresh_news W 3 [.int .i64 j]) (fun u hu=>by rw [List.mem_singleton.1 hu];rfl);have HNEW:=aH hnew;clear hnew
     go_wp2_with (first
      | (at_builtin;refine wpList_append_src _ rfl _ _ 23 23 rfl (fun b=>w.heap.size<=b) 3 i0 _ 1 8 Try.underlying23 IP.o.1 IP.o.2.1 IP.o.2.2.1 IP.o.2.2.2 rfl (by decide) v2 k _ rfl (H2.o.below (bA _)) _ 1 [.int .i64 j] rfl (HNEW.o W2) (by unfold maxLen;omega) (by omega) ?_))
     intro v4 W4 h4 b4;have hI4:Below w.heap.size w W4:=(HI2.o.trans ((Below.refl W2.heap.size W2).alloc (Nat.le_refl _) (.cells #[.int .i64 j] 3) |>.mono HI2.o.size)).trans (b4.below (by simp;have:=HI2.o.size;omega) (fun g h=>h))
     have h4':=h4.mono (T:=fun g=>w.heap.size<=g) (fun g _ hg=>by
      rcases hg with hg | hg
      · exact hg
      · exact Nat.le_trans HI2.o.size (Nat.le_of_succ_le hg))
     have H4:=aH h4';have HI4:=aH hI4;clear h4 b4 h4';go_upto_region 7 with fail;have hs3:Src Try.prog 1 23 (.slice (if cap=k then (some (⟨g,off,none⟩:Addr)) else (some (⟨g,off,none⟩:Addr)).map (·.add k)) (m - k) (cap - k)) (m - k) ((L.drop k).map (Value.int .i64)) W4:=by
      have hh:=Src.ofDrop (w:=W4) (C:=C) (ao:=some (⟨g,off,none⟩:Addr)) (cap:=cap) (k:=k) (L:=L) (by have:=HM.o;omega) (by have:=HM.o;omega) (fun i hi=>by
       obtain ⟨g',off',e',hg',hgC',hc'⟩:=HCELL.o i hi
       exact ⟨g',off',e',aL hg' HI4.o.size,hgC',keepc hc' HI4.o⟩)
      rw [HM.o] at hh;exact hh
     try rw [if_neg hck] at hs3
     try simp only [Option.map_some,Addr.add_lit] at hs3
     go_wp2_with (first
      | (at_builtin;refine wpList_append_src _ rfl _ _ 23 23 rfl (fun b=>w.heap.size<=b) 3 i0 _ 1 8 Try.underlying23 IP.o.1 IP.o.2.1 IP.o.2.2.1 IP.o.2.2.2 rfl (by decide) v4 (k + 1) _ rfl H4.o _ (m - k) _ rfl hs3 (by unfold maxLen;omega) (by omega) ?_))
     intro v3 W3 h3 b3;have hI3:Below w.heap.size w W3:=HI4.o.trans (b3.below HI4.o.size (fun g h=>h));have h3':=h3.mono (T:=fun g=>w.heap.size<=g) (fun g _ hg=>by rcases hg with hg | hg;exact hg;exact Nat.le_trans HI4.o.size hg);clear h3 hs3;go_wp2;go_ret;refine ⟨v3,rfl,?_,hI3⟩;rw [HX.o];exact Win.ints (n:=k + 1 + (m - k)) (L:=L.take k ++ j :: L.drop k) (by have:=HM.o;simp;omega) (by simpa [List.map_append] using h3')
  ·
   have hkx:RES=L.take k ++ j :: L.drop k:=(HP.o k (by have:=HM.o;omega) HK.o (fun h=>by have:=HM.o;omega)).2 (fun ⟨h,_⟩=>by have:=HM.o;omega);go_wp2_with fail;have HX:=aH hkx;clear hkx;refine wp_region_any (by kernel_rfl) ?_;try (change wpAny _ _ _ _ _ _ _ (World.drew _))
   refine wpAny_take (i:=0) (v:=?_) rfl (by kernel_rfl) (by kernel_rfl) (by kernel_rfl) (fun _ _ _ h=>h) (Or.inl ⟨by rfl,?_⟩) ?_;rotate_left
   · intro w;go_simp;try with_reducible rfl
   go_simp;refine wpAny_take (i:=1) (v:=?_) rfl (by kernel_rfl) (by kernel_rfl) (by kernel_rfl) (fun _ _ _ h=>h) (Or.inl ⟨by rfl,?_⟩) ?_;rotate_left
   · intro w;go_simp;try with_reducible rfl
   go_simp;refine wpAny_take (i:=2) (v:=?_) rfl (by kernel_rfl) (by kernel_rfl) (by kernel_rfl) (fun _ _ _ h=>h) (Or.inl ⟨by rfl,?_⟩) ?_;rotate_left
   · intro w;go_simp;try with_reducible rfl
   go_simp;refine wpAny_take (i:=4) (v:=?_) rfl (by kernel_rfl) (by kernel_rfl) (by kernel_rfl) (fun _ _ _ h=>h) (Or.inl ⟨by rfl,?_⟩) ?_;rotate_left
   · intro w;go_simp;try with_reducible rfl
   go_simp;refine wpAny_take (i:=5) (v:=?_) rfl (by kernel_rfl) (by kernel_rfl) (by kernel_rfl) (fun _ _ _ h=>h) (Or.inl ⟨by rfl,?_⟩) ?_;rotate_left
   · intro w;go_simp;try with_reducible rfl
   go_simp;refine wpAny_take (i:=6) (v:=?_) rfl (by kernel_rfl) (by kernel_rfl) (by kernel_rfl) (fun _ _ _ h=>h) (Or.inl ⟨by rfl,?_⟩) ?_;rotate_left
   · intro w;go_simp;try with_reducible rfl
   go_simp;refine all_one (i:=3) (by kernel_rfl) (op_value (v:=.slice (some ⟨w.heap.size,0,none⟩) 0 (m + 1)) (w':=w.drew.alloc (.cells (madeCells #[.int .i64 0] (m + 1)) 3)) rfl (by kernel_rfl) ?_ ?_)
   · go_simp;rw [HMK.o];rfl
   have hb1:Below w.heap.size w (w.drew.alloc (.cells (madeCells #[.int .i64 0] (m + 1)) 3)):=((Below.refl _ _).drew).alloc (Nat.le_refl _) _;have HWZ:=aH (show Win (fun b=>w.heap.size<=b) 3 1 (w.drew.alloc (.cells (madeCells #[.int .i64 0] (m + 1)) 3)) (.slice (some ⟨w.heap.size,0,none⟩) 0 (m + 1)) 0 [] from ⟨by simp,.inr ⟨w.heap.size,0,m + 1,_,rfl,Nat.le_refl _,heap_alloc_new w.drew _,Nat.zero_le _,by unfold maxLen;omega,by simp [size_madeCells],by simp⟩⟩);have hs:Src Try.prog 1 23 (.slice (ao) k cap) k ((L.take k).map (Value.int .i64)) (w.drew.alloc (.cells (madeCells #[.int .i64 0] (m + 1)) 3)):=by
    have hh:=Src.ofInts (w:=w.drew.alloc (.cells (madeCells #[.int .i64 0] (m + 1)) 3)) (C:=C) (ao:=ao) (cap:=cap) (L:=L.take k) (fun i hi=>by
     have hi2:i < k/\i < L.length:=(by simp at hi;omega);obtain ⟨g',off',e',hg',hgC',hc'⟩:=HCELL.o i hi2.2;refine ⟨g',off',e',aL hg' hb1.size,hgC',?_⟩
     rw [keepc hc' hb1,List.getD_eq_getElem?_getD,List.getD_eq_getElem?_getD,List.getElem?_take,if_pos hi2.1])
    rw [show (L.take k).length=k by have:=HM.o;simp;omega] at hh;exact hh
   refine all_one (i:=7) (by kernel_rfl) ?_;refine op_append rfl (by kernel_rfl) (.tmp 24) (.tmp 27) 23 23 rfl (fun b=>w.heap.size<=b) 3 i0 _ 1 8 Try.underlying23 IP.o.1 IP.o.2.1 IP.o.2.2.1 IP.o.2.2.2 rfl (by decide) _ 0 [] rfl HWZ.o _ k _ rfl hs (by unfold maxLen;omega) (by omega) ?_;intro v2 W2 h2w b2;have hI2:Below w.heap.size w W2:=hb1.trans (b2.below hb1.size (fun g h=>h));have h2x:=h2w.mono (T:=fun g=>w.heap.size<=g) (fun g _ hg=>by rcases hg with hg | hg;exact hg;exact Nat.le_trans hb1.size hg);rw [Nat.zero_add,List.nil_append] at h2x;have H2:=aH h2x;have HI2:=aH hI2;clear h2w b2 h2x hs hb1 HWZ;go_simp;refine wpAny_take (i:=8) (v:=?_) rfl (by kernel_rfl) (by kernel_rfl) (by kernel_rfl) (fun _ _ _ h=>h) (Or.inl ⟨by rfl,?_⟩) ?_;rotate_left
   · intro w;go_simp;try with_reducible rfl
   go_simp;refine wpAny_done (by kernel_rfl) ?_ _;obtain rfl:k=m:=(by omega);have hkm1:((k:Int) == (k:Int))=true:=beq_iff_eq.2 rfl;have hnew:∀ W:World,Src Try.prog 1 23 (.slice (some ⟨W.heap.size,0,none⟩) 1 1) 1 [.int .i64 j] (W.alloc (.cells #[.int .i64 j] 3)):=fun W=>Src.ofSlice _ Try.underlying23 ⟨W.heap.size,0,none⟩ 1 1 [.int .i64 j] rfl (fresh_news W 3 [.int .i64 j]) (fun u hu=>by rw [List.mem_singleton.1 hu];rfl);have HNEW:=aH hnew;clear hnew
   go_wp2_with (first
    | (at_builtin;refine wpList_append_src _ rfl _ _ 23 23 rfl (fun b=>w.heap.size<=b) 3 i0 _ 1 8 Try.underlying23 IP.o.1 IP.o.2.1 IP.o.2.2.1 IP.o.2.2.2 rfl (by decide) v2 k _ rfl (H2.o.below (bA _)) _ 1 [.int .i64 j] rfl (HNEW.o W2) (by unfold maxLen;omega) (by omega) ?_))
   intro v4 W4 h4 b4;have hI4:Below w.heap.size w W4:=(HI2.o.trans ((Below.refl W2.heap.size W2).alloc (Nat.le_refl _) (.cells #[.int .i64 j] 3) |>.mono HI2.o.size)).trans (b4.below (by simp;have:=HI2.o.size;omega) (fun g h=>h))
   have h4':=h4.mono (T:=fun g=>w.heap.size<=g) (fun g _ hg=>by
    rcases hg with hg | hg
    · exact hg
    · exact Nat.le_trans HI2.o.size (Nat.le_of_succ_le hg))
   have H4:=aH h4';have HI4:=aH hI4;clear h4 b4 h4';go_upto_region 7 with fail
   go_wp2_with (first
    | (at_builtin;refine wpList_append_src _ rfl _ _ 23 23 rfl (fun b=>w.heap.size<=b) 3 i0 _ 1 8 Try.underlying23 IP.o.1 IP.o.2.1 IP.o.2.2.1 IP.o.2.2.2 rfl (by decide) v4 _ _ rfl H4.o _ 0 [] rfl (Src.zero _ _ _) (by unfold maxLen;omega) (by omega) ?_))
   all_goals
    intro v3 W3 h3 b3;have hI3:Below w.heap.size w W3:=HI4.o.trans (b3.below HI4.o.size (fun g h=>h));have h3':=h3.mono (T:=fun g=>w.heap.size<=g) (fun g _ hg=>by rcases hg with hg | hg;exact hg;exact Nat.le_trans HI4.o.size hg);clear h3;go_wp2;go_ret;refine ⟨v3,rfl,?_,hI3⟩;rw [HX.o];exact Win.ints (n:=k + 1) (L:=L.take k ++ j :: L.drop k) (by have:=HM.o;simp;omega) (by rw [List.drop_of_length_le (by have:=HM.o;omega)];simpa [List.map_append] using h3')
theorem HasKn.take {w:World} {R:Nat->Prop} {ao:Option Addr} {L:List Nat} (h:HasKn w R ao L) (m:Nat):HasKn w R ao (L.take m):=fun k x hx=>by
 rw [List.getElem?_take] at hx;split at hx
 · exact h k x hx
 · cases hx
namespace Go.Proofs.Ythddifjhoniacaa
set_option linter.unusedVariables false
open Go.RowKit Go.Sort
end Go.Proofs.Ythddifjhoniacaa
