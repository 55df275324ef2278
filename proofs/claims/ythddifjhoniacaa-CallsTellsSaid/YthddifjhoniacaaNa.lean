import Derived.Test.YthddifjhoniacaaLx
import Derived.Test.YthddifjhoniacaaMe
import Derived.Test.YthddifjhoniacaaSa
import Derived.Test.YthddifjhoniacaaHv
import Derived.Test.YthddifjhoniacaaIc
import Derived.Test.YthddifjhoniacaaGc
import Derived.Deep.CutBlock
import Derived.BigQuiet
namespace Go.Proofs.Ythddifjhoniacaa
set_option linter.unusedVariables false
open Go.RowKit Go.Sort
def orL (a b:List Int):List Int:=b.foldl putL a
theorem orL_mem:∀ (b a:List Int) (y:Int),y ∈ orL a b ↔ y ∈ a\/y ∈ b
 | [],a,y=>by simp [orL]
 | x :: r,a,y=>by
  show y ∈ orL (putL a x) r ↔ _;rw [orL_mem r (putL a x) y,putL_mem x a y,List.mem_cons];constructor
  ·
   rintro ((h | h) | h)
   · exact .inr (.inl h)
   · exact .inl h
   · exact .inr (.inr h)
  ·
   rintro (h | h | h)
   · exact .inl (.inr h)
   · exact .inl (.inl h)
   · exact .inr h
theorem RisL.or:∀ (b:List Int) {a:List Int},RisL a->RisL (orL a b)
 | [],_,h=>h
 | x :: r,_,h=>RisL.or r (h.put x)
theorem orL_drop {a b:List Int} {k:Nat} {x:Int} (h:b[k]?=some x):orL a (b.drop k)=orL (putL a x) (b.drop (k + 1)):=by obtain ⟨h1,h2⟩:=aS.1 h;rw [List.drop_eq_getElem_cons h1,h2];rfl
theorem putL_same {L:List Int} {x:Int} (h:RisL L) (hx:x ∈ L):putL L x=L:=RisL.ext (h.put x) h fun y=>by rw [putL_mem x L y];exact ⟨fun g=>g.elim (fun e=>by rw [e];exact hx) id,.inr⟩
theorem setN_self (T:Nx) (k:Nat):setN T k (T k)=T:=by
 funext j
 unfold setN;split
 · next e=>rw [e]
 · rfl
theorem setN_at (T:Nx) (k:Nat) (l:List Int):setN T k l k=l:=by unfold setN;rw [if_pos rfl]
theorem setN_ne (T:Nx) {j k:Nat} (l:List Int) (h:j ≠ k):setN T k l j=T j:=by unfold setN;rw [if_neg h]
theorem setN_two (T:Nx) (k:Nat) (l m:List Int):setN (setN T k l) k m=setN T k m:=by
 funext j
 unfold setN;split <;> rfl
theorem addN_or (k:Nat):∀ (l:List Int) (s:Nx × Bool),RisL (s.1 k)->(addN k l s).1=setN s.1 k (orL (s.1 k) l)
 | [],s,h=>(setN_self s.1 k).symm
 | x :: r,s,h=>by
  unfold addN;split
  ·
   next e =>
   rw [addN_or k r s h];show _=setN s.1 k (orL (putL (s.1 k) x) r);rw [putL_same h e]
  · have h2:RisL (setN s.1 k (putL (s.1 k) x) k):=(by rw [setN_at];exact h.put x);rw [addN_or k r (setN s.1 k (putL (s.1 k) x),true) h2];show setN (setN s.1 k (putL (s.1 k) x)) k (orL (setN s.1 k (putL (s.1 k) x) k) r)=setN s.1 k (orL (putL (s.1 k) x) r);rw [setN_two,setN_at]
theorem acts_to (LD:Nx) (k:Nat):∀ (L:List ActN) (s:Nx × Bool),(∀ a ∈ L,a.1=k)->RisL (s.1 k)->∃ X,(actsN LD L s).1=setN s.1 k X/\RisL X/\∀ y,y ∈ X ↔ y ∈ s.1 k\/∃ a ∈ L,y ∈ srcN LD s.1 a
 | [],s,_,h=>⟨s.1 k,(setN_self s.1 k).symm,h,fun y=>by simp⟩
 | a :: r,s,ha,h=>by
  have e:=ha a (List.mem_cons_self ..);have e1:=addN_or k (srcN LD s.1 a) s h;have h1:RisL ((addN k (srcN LD s.1 a) s).1 k):=by rw [e1,setN_at];exact RisL.or _ h
  obtain ⟨X,hX,hr,hm⟩:=acts_to LD k r (addN k (srcN LD s.1 a) s) (fun b hb=>ha b (List.mem_cons_of_mem _ hb)) h1;refine ⟨X,?_,hr,fun y=>?_⟩
  · show (actsN LD r (addN a.1 (srcN LD s.1 a) s)).1=_;rw [e,hX,e1,setN_two]
  ·
   rw [hm y,e1,setN_at,orL_mem];constructor
   ·
    rintro ((g | g) | ⟨b,hb,g⟩)
    · exact .inl g
    · exact .inr ⟨a,List.mem_cons_self ..,g⟩
    ·
     unfold srcN at g;split at g
     · next q=>exact .inr ⟨b,List.mem_cons_of_mem _ hb,by unfold srcN;rw [if_pos q];exact g⟩
     ·
      next q =>
      by_cases j:b.2.2=k
      ·
       rw [j,setN_at,orL_mem] at g;rcases g with g | g
       · exact .inl g
       · exact .inr ⟨a,List.mem_cons_self ..,g⟩
      · rw [setN_ne _ _ j] at g;exact .inr ⟨b,List.mem_cons_of_mem _ hb,by unfold srcN;rw [if_neg q];exact g⟩
   ·
    rintro (g | ⟨b,hb,g⟩)
    · exact .inl (.inl g)
    ·
     rcases List.mem_cons.1 hb with q | hb
     · rw [q] at g;exact .inl (.inr g)
     ·
      have hle:leN s.1 (setN s.1 k (orL (s.1 k) (srcN LD s.1 a))):=fun j z hz=>by
       by_cases q:j=k
       · rw [q,setN_at];rw [q] at hz;exact (orL_mem _ _ _).2 (.inl hz)
       · rw [setN_ne _ _ q];exact hz
      exact .inr ⟨b,hb,srcN_mono hle b g⟩
def behF (LD:Nx) (NU:Nat->Bool):List Int->List Nat->List Int × Bool
 | l,[]=>(l,true)
 | l,b :: r=>if NU b=true then behF LD NU (orL l (LD b)) r else (orL l (LD b),false)
theorem behF_mem (LD:Nx) (NU:Nat->Bool) (T:Nx) (n k:Nat):∀ (r:List Nat) (l:List Int) (y:Int),(y ∈ (behF LD NU l r).1\/((behF LD NU l r).2=true/\y ∈ T n)) ↔ (y ∈ l\/∃ a ∈ behA NU n k r,y ∈ srcN LD T a)
 | [],l,y=>by show (y ∈ l\/(true=true/\y ∈ T n)) ↔ (y ∈ l\/∃ a ∈ [((k,false,n):ActN)],y ∈ srcN LD T a);simp [srcN]
 | b :: r,l,y=>by
  have e:behA NU n k (b :: r)=((k,true,b):ActN) :: (if NU b=true then behA NU n k r else []):=rfl;rw [e];have e2:srcN LD T ((k,true,b):ActN)=LD b:=rfl;by_cases h:NU b=true
  · have e3:behF LD NU l (b :: r)=behF LD NU (orL l (LD b)) r:=if_pos h;rw [if_pos h,e3,behF_mem LD NU T n k r,orL_mem];simp only [List.mem_cons,exists_eq_or_imp,e2];exact or_assoc
  · have e3:behF LD NU l (b :: r)=(orL l (LD b),false):=if_neg h;rw [if_neg h,e3];simp only [List.mem_cons,List.not_mem_nil,or_false,exists_eq_left,e2,orL_mem];simp
def parL (LD:Nx) (NU:Nat->Bool) (n:Nat) (op:Int) (k:Nat) (r:List Nat) (T:Nx):List Int :=
 match (if op=4 then behF LD NU [] r else ([],true)) with
 | (l,z)=>if (if op=9\/op=10 then false else z)=true then orL (if op=6\/op=7 then orL l (LD k) else l) (T n) else (if op=6\/op=7 then orL l (LD k) else l)
def kidL (LD:Nx) (NU:Nat->Bool) (n:Nat) (op:Int):List Nat->Nx->Nx
 | [],T=>T
 | k :: r,T=>kidL LD NU n op r (setN T k (orL (T k) (parL LD NU n op k r T)))
def partA (NU:Nat->Bool) (n:Nat) (op:Int) (k:Nat) (r:List Nat):List ActN :=
 if op=4 then behA NU n k r else if op=6\/op=7 then [(k,true,k),(k,false,n)] else if op=9\/op=10 then [] else [(k,false,n)]
def actP (NU:Nat->Bool) (n:Nat) (op:Int):List Nat->List ActN
 | []=>[]
 | k :: r=>partA NU n op k r ++ actP NU n op r
theorem partA_to {NU:Nat->Bool} {n:Nat} {op:Int} {k:Nat} {r:List Nat}:∀ a ∈ partA NU n op k r,a.1=k:=fun a ha=>by
 unfold partA at ha;split at ha
 · exact beh_to NU n k r a ha
 split at ha
 · simp only [List.mem_cons,List.not_mem_nil,or_false] at ha;rcases ha with e | e <;> rw [e]
 split at ha
 · cases ha
 · rw [List.mem_singleton] at ha;rw [ha]
theorem parL_mem {LD:Nx} {NU:Nat->Bool} {n:Nat} {op:Int} {k:Nat} {r:List Nat} {T:Nx} (y:Int):y ∈ parL LD NU n op k r T ↔ ∃ a ∈ partA NU n op k r,y ∈ srcN LD T a:=by
 unfold parL partA;by_cases h4:op=4
 ·
  have h:=behF_mem LD NU T n k r [] y;simp only [List.not_mem_nil,false_or] at h;rw [if_pos h4,if_pos h4,<- h];have h9:¬ (op=9\/op=10):=by omega
  have h6:¬ (op=6\/op=7):=by omega
  cases hq:behF LD NU [] r with
  | mk l z =>
   simp only;rw [if_neg h9,if_neg h6]
   cases z with
   | true=>rw [if_pos rfl,orL_mem];simp
   | false=>rw [if_neg (by decide)];simp
 ·
  rw [if_neg h4,if_neg h4];simp only;by_cases h6:op=6\/op=7
  · have h9:¬ (op=9\/op=10):=(by omega);rw [if_pos h6,if_neg h9,if_pos h6,if_pos rfl,orL_mem,orL_mem];simp [srcN]
  ·
   rw [if_neg h6,if_neg h6];by_cases h9:op=9\/op=10
   · rw [if_pos h9,if_pos h9,if_neg (by decide)];simp
   · rw [if_neg h9,if_neg h9,if_pos rfl,orL_mem];simp [srcN]
theorem kid_acts (LD:Nx) (NU:Nat->Bool) (n:Nat) (op:Int):∀ (ks:List Nat) (s:Nx × Bool),(∀ j,RisL (s.1 j))->kidL LD NU n op ks s.1=(actsN LD (actP NU n op ks) s).1
 | [],s,_=>rfl
 | k :: r,s,h=>by
  obtain ⟨X,hX,hr,hm⟩:=acts_to LD k (partA NU n op k r) s partA_to (h k);have e:setN s.1 k (orL (s.1 k) (parL LD NU n op k r s.1))=(actsN LD (partA NU n op k r) s).1:=by
   rw [hX]
   congr 1
   exact RisL.ext (RisL.or _ (h k)) hr fun y=>by rw [orL_mem,hm,parL_mem]
  have h2:∀ j,RisL ((actsN LD (partA NU n op k r) s).1 j):=fun j=>by
   rw [hX];by_cases q:j=k
   · rw [q,setN_at];exact hr
   · rw [setN_ne _ _ q];exact h j
  show kidL LD NU n op r (setN s.1 k (orL (s.1 k) (parL LD NU n op k r s.1)))=(actsN LD (partA NU n op k r ++ actP NU n op r) s).1;rw [e,actsN_app,kid_acts LD NU n op r _ h2]
theorem rowA_P (NU:Nat->Bool) (n:Nat):∀ (L:List Nat),rowA NU n L=actP NU n 4 L
 | []=>rfl
 | k :: r=>by show behA NU n k r ++ rowA NU n r=partA NU n 4 k r ++ actP NU n 4 r;rw [rowA_P NU n r];unfold partA;rw [if_pos rfl]
theorem actG_P {gr:Gj} {NU:Nat->Bool} {n:Nat} {x:Nj} (hx:gr.ns[n]?=some x) (h11:x.op ≠ 11):actG gr NU n=actP NU n x.op x.ks:=by
 rw [actG_eq hx];by_cases h9:x.op=9\/x.op=10
 ·
  rw [if_pos h9];have key:∀ L:List Nat,actP NU n x.op L=[]:=fun L=>by
   induction L with
   | nil=>rfl
   | cons k r ih =>
    show partA NU n x.op k r ++ actP NU n x.op r=[];rw [ih];unfold partA;rw [if_neg (by omega),if_neg (by omega),if_pos h9];rfl
  rw [key]
 rw [if_neg h9,if_neg h11];by_cases h4:x.op=4
 · rw [if_pos h4,h4];exact rowA_P NU n x.ks
 rw [if_neg h4];by_cases h6:x.op=6\/x.op=7
 ·
  rw [if_pos h6]
  induction x.ks with
  | nil=>rfl
  | cons k r ih =>
   rw [List.flatMap_cons,ih];show _=partA NU n x.op k r ++ actP NU n x.op r;unfold partA;rw [if_neg h4,if_pos h6]
 ·
  rw [if_neg h6]
  induction x.ks with
  | nil=>rfl
  | cons k r ih =>
   rw [List.map_cons,ih];show _=partA NU n x.op k r ++ actP NU n x.op r;unfold partA;rw [if_neg h4,if_neg h6,if_neg h9];rfl
def kidsR (gr:Gj) (LD:Nx) (n:Nat) (T:Nx):Nx:=match gr.ns[n]? with
 | none=>T
 | some x=>if x.op=11 then setN T (bodyG gr n) (orL (T (bodyG gr n)) (T n)) else kidL LD (nulG gr) n x.op x.ks T
theorem kidsR_acts {gr:Gj} {LD:Nx} {n:Nat} {s:Nx × Bool} (hn:n < gr.ns.length) (h:∀ j,RisL (s.1 j)):kidsR gr LD n s.1=(actsN LD (actG gr (nulG gr) n) s).1:=by
 obtain ⟨x,hx⟩:∃ x,gr.ns[n]?=some x:=⟨_,aG hn⟩;unfold kidsR;rw [hx];show (if x.op=11 then setN s.1 (bodyG gr n) (orL (s.1 (bodyG gr n)) (s.1 n)) else kidL LD (nulG gr) n x.op x.ks s.1)=_;by_cases h11:x.op=11
 · rw [if_pos h11,actG_eq hx,if_neg (by omega),if_pos h11];show _=(addN (bodyG gr n) (s.1 n) s).1;rw [addN_or _ _ _ (h _)]
 · rw [if_neg h11,actG_P hx h11];exact kid_acts LD (nulG gr) n x.op x.ks s h
def cntN (T:Nx):Nat->Nat
 | 0=>0
 | k + 1=>cntN T k + (T k).length
theorem cnt_lack {N:Nat} {T:Nx} (h:∀ k,(T k).length<=N):∀ k,cntN T k + lackN N T k=k * N
 | 0=>by simp [cntN,lackN]
 | k + 1=>by have h1:=cnt_lack h k;have h2:=h k;unfold cntN lackN;rw [Nat.succ_mul];omega
theorem cntN_le {N:Nat} {T:Nx} (h:∀ k,(T k).length<=N) (k:Nat):cntN T k<=k * N:=by have:=cnt_lack h k;omega
theorem RisL.room {N:Nat} {L:List Int} (h:RisL L) (hr:∀ x ∈ L,0<=x/\x < (N:Int)):L.length<=N:=by have:=RisL.len (N:=N) L 0 h (fun y hy=>by have:=hr y hy;omega) (Nat.zero_le _);omega
set_option maxRecDepth 1000000 in
set_option maxHeartbeats 3200000 in
theorem orl_any (A B:List Int) (N:Nat) (hN:N<=1000) (hA:RisL A/\∀ x ∈ A,0<=x/\x < (N:Int)) (hB:∀ x ∈ B,0<=x/\x < (N:Int)) (hl:(B.length:Int)<=1000) (va vb:Value) (C:Nat) (w:World) (ha:IntsAt w C va A) (hb:IntsAt w C vb B) (hC:C<=w.heap.size) :
  Calls Try.prog 38 #[va,vb] w fun e w'=>∃ v',e=.returned v'/\IntsAt w' C v' (orL A B)/\Below w.heap.size w w':=by
 have HI0:=aH ha;have HJ0:=aH hb;have HBR:=aH hB;have HA0:=aH hA;have HC0:=aH hC;obtain ⟨bo,bc,rfl,hcap,-⟩:=hb;obtain ⟨m,hm⟩:∃ m,B.length=m:=⟨_,rfl⟩;have HM:=aH hm;obtain ⟨RES,hRES⟩:∃ z,orL A B=z:=⟨_,rfl⟩;have HRES:=aH (show RES=orL A (B.drop 0) from by rw [<- hRES];rfl);rw [hm] at hl hcap;rw [hm,hRES];have HJ1:=aH (show IntsAt w C (.slice bo m bc) B from by rw [<- hm];exact HJ0.o);clear ha hA hB hC hm hRES HJ0;go_enter Try.func38,Try.ntmps38;go_wp2_with fail
 go_loopw [0,5] (fun v0 v5 wr=>∃ (k:Nat) (L:List Int) (vv:Value),vv=v0/\v5=.int .i64 (k:Int)/\(k:Int)<=m/\aQ (RES=orL L (B.drop k))/\aQ (IntsAt wr C vv L)/\aQ (RisL L/\∀ x ∈ L,0<=x/\x < (N:Int))/\aQ (Below w.heap.size w wr)) (fun _ v5 _=>m - (intOf v5).toNat)
 case atStart=>exact ⟨0,A,va,rfl,rfl,by omega,HRES,HI0,HA0,aH (Below.refl _ _)⟩
 case round =>
  obtain ⟨k,L,vv,rfl,rfl,hk,HR,HI,HL,HB⟩:=hrel;by_cases hkm:(k:Int) < m
  ·
   have hk1:decide ((k:Int) < (m:Int))=true:=aT hkm;have hk2:decide (k < m)=true:=aT (by omega);have hw1:IntKind.i64.wrap ((k:Int) + 1)=(k:Int) + 1:=wI;obtain ⟨x,hx⟩:∃ x,B[k]?=some x:=⟨_,aG (by have:=HM.o;omega)⟩;have HST:=aH (HR.o.trans (orL_drop (a:=L) hx));have HXR:=aH (HBR.o x (aM hx));have hII:=HJ1.o.below HB.o;obtain ⟨g,off,hbo,hgl,c0⟩:∃ g off,bo=some ⟨g,off,none⟩/\g < wr.heap.size/\wr.cell? ⟨g,off + k,none⟩=some (.int .i64 x):=(by obtain ⟨ao1,c1,e1,-,hf⟩:=hII;injection e1 with e1 e2 e3;obtain ⟨g,off,e,h1,-,h3⟩:=hf k (by have:=HM.o;omega);refine ⟨g,off,e1.trans e,h1,?_⟩;rw [h3,List.getD_eq_getElem?_getD,hx];rfl);subst hbo;have HPU:=aH (rput_any L x (by have:=HL.o.1.room HL.o.2;omega) vv C wr HI.o (Nat.le_trans HC0.o HB.o.size));clear hx hII;go_wp2_with fail;refine HPU.o.mono ?_;rintro e w2 ⟨v2,he,hI2,hb2⟩;subst he;have HI2:=aH hI2;have HB2:=aH (keepb HB.o hb2);have HL2:=aH (show RisL (putL L x)/\∀ y ∈ putL L x,0<=y/\y < (N:Int) from ⟨HL.o.1.put x,fun y hy=>by rcases (putL_mem x _ y).1 hy with rfl | hy;exact HXR.o;exact HL.o.2 y hy⟩);clear hI2 hb2 c0 hgl HPU;go_wp2
   go_roundw
   case rel=>exact ⟨k + 1,_,_,rfl,by go_num,by omega,HST,HI2,HL2,HB2⟩
   case measure=>simp [intOf];omega
  · have hk1:decide ((k:Int) < (m:Int))=false:=aF hkm;have hk2:decide (k < m)=false:=aF (by omega);have HE:=aH (show RES=L from by rw [HR.o,List.drop_of_length_le (by have:=HM.o;omega)];rfl);go_wp2;go_ret;rw [HE.o];exact ⟨_,rfl,HI.o,HB.o⟩
structure Bk (w:World) (E p u q C:Nat) (lo:Option Addr) (lc:Nat) (gr:Gj) (a:Gv) (LD:Nx) (T:Nx):Prop where
 ep:E<=p
 eq:E<=q
 pq:p ≠ q
 up:u ≠ p
 uq:u ≠ q
 pc:p < C
 qc:q < C
 own:Own w p 61 [.slice a.mo gr.ms.length a.mc,.slice a.no gr.ns.length a.nc,.slice a.ho gr.hs.length a.hc,.slice a.wo gr.ws.length a.wc,.int .i64 gr.st,.slice (some ⟨u,0,none⟩) gr.ns.length gr.ns.length,.slice lo gr.ns.length lc,.slice (some ⟨q,0,none⟩) gr.ns.length gr.ns.length]
 nu:Own w u 4 (rowB (nulG gr) gr.ns.length)
 nx:∃ V:Nat->Value,Own w q 23 ((List.range gr.ns.length).map V)/\∀ k,k < gr.ns.length->IntsAt w C (V k) (T k)
 ld:∀ k,k < gr.ns.length->∃ b off v,lo=some ⟨b,off,none⟩/\b < w.heap.size/\C<=b/\w.cell? ⟨b,off + k,none⟩=some v/\IntsAt w C v (LD k)
 hg:HasGR w (fun b=>b < E) gr a
 ok:∀ k,RisL (T k)/\∀ x ∈ T k,0<=x/\x < (gr.ns.length:Int)
 sz:C<=w.heap.size
section
variable {w w':World} {E p u q C:Nat} {lo:Option Addr} {lc:Nat} {gr:Gj} {a:Gv} {LD:Nx} {T:Nx}
theorem Bk.below (h:Bk w E p u q C lo lc gr a LD T) (hb:Below w.heap.size w w'):Bk w' E p u q C lo lc gr a LD T:=by
 obtain ⟨V,h1,h2⟩:=h.nx
 exact ⟨h.ep,h.eq,h.pq,h.up,h.uq,h.pc,h.qc,h.own.under hb h.own.lt,h.nu.under hb h.nu.lt,⟨V,h1.under hb h1.lt,fun k hk=>(h2 k hk).below hb⟩,
  fun k hk=>by obtain ⟨b,off,v,e,h3,h4,h5,h6⟩:=h.ld k hk;exact ⟨b,off,v,e,aL h3 hb.size,h4,keepc h5 hb,h6.below hb⟩,h.hg.below hb,h.ok,Nat.le_trans h.sz hb.size⟩
theorem Bk.len (h:Bk w E p u q C lo lc gr a LD T) (k:Nat):(T k).length<=gr.ns.length:=(h.ok k).1.room (h.ok k).2
theorem Bk.set (h:Bk w E p u q C lo lc gr a LD T) {n:Nat} {L:List Int} {v:Value} (hL:RisL L/\∀ x ∈ L,0<=x/\x < (gr.ns.length:Int)) (hv:IntsAt w C v L):Bk (w.setCell ⟨q,n,none⟩ v) E p u q C lo lc gr a LD (setN T n L):=by
 have hb:But (fun j=>j=q) w (w.setCell ⟨q,n,none⟩ v):=But.put w q n v;have hI:∀ {v':Value} {L:List Int},IntsAt w C v' L->IntsAt (w.setCell ⟨q,n,none⟩ v) C v' L:=fun hi=>hi.but hb (fun b hc _ e=>by have:=h.qc;have e:b=q:=e;omega);obtain ⟨V,h1,h2⟩:=h.nx;refine ⟨h.ep,h.eq,h.pq,h.up,h.uq,h.pc,h.qc,h.own.but hb h.pq,h.nu.but hb h.uq,⟨fun j=>if j=n then v else V j,?_,fun k hk=>?_⟩,fun k hk=>?_,?_,fun k=>?_,Nat.le_trans h.sz hb.size⟩
 ·
  have h3:=h1.put n v;have e:((List.range gr.ns.length).map V).set n v=(List.range gr.ns.length).map (fun j=>if j=n then v else V j):=by
   apply List.ext_getElem?;intro i;rw [List.getElem?_set,List.getElem?_map,List.getElem?_map,List.length_map,List.length_range];by_cases hi:i < gr.ns.length
   ·
    rw [List.getElem?_range hi];by_cases e:n=i
    · subst e;simp [hi]
    · simp [e,Ne.symm e]
   ·
    rw [List.getElem?_eq_none (by simpa using hi)];by_cases e:n=i
    · subst e;simp [hi]
    · simp [e]
  rw [e] at h3;exact h3
 ·
  show IntsAt _ C (if k=n then v else V k) (setN T n L k);unfold setN;by_cases e:k=n
  · rw [if_pos e,if_pos e];exact hI hv
  · rw [if_neg e,if_neg e];exact hI (h2 k hk)
 · obtain ⟨b,off,v',e,h3,h4,h5,h6⟩:=h.ld k hk;exact ⟨b,off,v',e,aL h3 hb.size,h4,hb.cell (fun e=>by have:=h.qc;have e:b=q:=e;omega) h5,hI h6⟩
 · exact h.hg.but hb (fun j _ hj e=>by have:=h.eq;have e:j=q:=e;omega)
 ·
  unfold setN;split
  · exact hL
  · exact h.ok k
end
def BkE (E p u q C:Nat) (lo:Option Addr) (lc:Nat) (gr:Gj) (a:Gv) (LD:Nx) (T:Nx) (w:World) (e:Ending) (w':World):Prop:=e=.returned (.tuple #[])/\Bk w' E p u q C lo lc gr a LD T/\But (fun b=>b=q) w w'
end Go.Proofs.Ythddifjhoniacaa
