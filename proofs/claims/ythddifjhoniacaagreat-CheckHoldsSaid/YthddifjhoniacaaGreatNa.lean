import Derived.Test.YthddifjhoniacaaGreatLx
import Derived.Test.YthddifjhoniacaaGreatIl
namespace Go.Proofs.YthddifjhoniacaaGreat
set_option linter.unusedVariables false
set_option maxHeartbeats 6400000
set_option maxRecDepth 1000000
open Go.RowKit Go.Sort
def orL (a b:List Int):List Int:=b.foldl bT a
theorem kX:∀ (b a:List Int) (y:Int),y ∈ orL a b ↔ y ∈ a\/y ∈ b
 | [],a,y=>by simp [orL]
 | x :: r,a,y=>by
  show y ∈ orL (bT a x) r ↔ _;rw [kX r (bT a x) y,lW x a y,List.mem_cons];constructor
  ·
   rintro ((h | h) | h)
   · exact .inr (.inl h)
   · exact .inl h
   · exact .inr (.inr h)
  ·
   rintro (h | h | h)
   · exact .inl (.inr h)
   · exact .inl (.inl h)
   · exact .inr h
theorem gF.or:∀ (b:List Int) {a:List Int},gF a->gF (orL a b)
 | [],_,h=>h
 | x :: r,_,h=>gF.or r (h.put x)
theorem JM {a b:List Int} {k:Nat} {x:Int} (h:b[k]?=some x):orL a (b.drop k)=orL (bT a x) (b.drop (k + 1)):=by obtain ⟨h1,h2⟩:=aS.1 h;rw [List.drop_eq_getElem_cons h1,h2];rfl
theorem A8E {L:List Int} {x:Int} (h:gF L) (hx:x ∈ L):bT L x=L:=gF.ext (h.put x) h fun y=>by rw [lW x L y];exact ⟨fun g=>g.elim (fun e=>by rw [e];exact hx) id,.inr⟩
theorem TN (T:Nx) (k:Nat):iM T k (T k)=T:=by
 funext j
 unfold iM;split
 · next e=>rw [e]
 · rfl
theorem Ig (T:Nx) (k:Nat) (l:List Int):iM T k l k=l:=by unfold iM;rw [if_pos rfl]
theorem XG (T:Nx) {j k:Nat} (l:List Int) (h:j ≠ k):iM T k l j=T j:=by unfold iM;rw [if_neg h]
theorem A2J (T:Nx) (k:Nat) (l m:List Int):iM (iM T k l) k m=iM T k m:=by
 funext j
 unfold iM;split <;> rfl
theorem BK (k:Nat):∀ (l:List Int) (s:Nx × Bool),gF (s.1 k)->(addN k l s).1=iM s.1 k (orL (s.1 k) l)
 | [],s,h=>(TN s.1 k).symm
 | x :: r,s,h=>by
  unfold addN;split
  ·
   next e =>
   rw [BK k r s h];show _=iM s.1 k (orL (bT (s.1 k) x) r);rw [A8E h e]
  · have h2:gF (iM s.1 k (bT (s.1 k) x) k):=(by rw [Ig];exact h.put x);rw [BK k r (iM s.1 k (bT (s.1 k) x),true) h2];show iM (iM s.1 k (bT (s.1 k) x)) k (orL (iM s.1 k (bT (s.1 k) x) k) r)=iM s.1 k (orL (bT (s.1 k) x) r);rw [A2J,Ig]
theorem A5A (LD:Nx) (k:Nat):∀ (L:List gX) (s:Nx × Bool),(∀ a ∈ L,a.1=k)->gF (s.1 k)->∃ X,(eQ LD L s).1=iM s.1 k X/\gF X/\∀ y,y ∈ X ↔ y ∈ s.1 k\/∃ a ∈ L,y ∈ mD LD s.1 a
 | [],s,_,h=>⟨s.1 k,(TN s.1 k).symm,h,fun y=>by simp⟩
 | a :: r,s,ha,h=>by
  have e:=ha a (List.mem_cons_self ..);have e1:=BK k (mD LD s.1 a) s h;have h1:gF ((addN k (mD LD s.1 a) s).1 k):=by rw [e1,Ig];exact gF.or _ h
  obtain ⟨X,hX,hr,hm⟩:=A5A LD k r (addN k (mD LD s.1 a) s) (fun b hb=>ha b (List.mem_cons_of_mem _ hb)) h1;refine ⟨X,?_,hr,fun y=>?_⟩
  · show (eQ LD r (addN a.1 (mD LD s.1 a) s)).1=_;rw [e,hX,e1,A2J]
  ·
   rw [hm y,e1,Ig,kX];constructor
   ·
    rintro ((g | g) | ⟨b,hb,g⟩)
    · exact .inl g
    · exact .inr ⟨a,List.mem_cons_self ..,g⟩
    ·
     unfold mD at g;split at g
     · next q=>exact .inr ⟨b,List.mem_cons_of_mem _ hb,by unfold mD;rw [if_pos q];exact g⟩
     ·
      next q =>
      by_cases j:b.2.2=k
      ·
       rw [j,Ig,kX] at g;rcases g with g | g
       · exact .inl g
       · exact .inr ⟨a,List.mem_cons_self ..,g⟩
      · rw [XG _ _ j] at g;exact .inr ⟨b,List.mem_cons_of_mem _ hb,by unfold mD;rw [if_neg q];exact g⟩
   ·
    rintro (g | ⟨b,hb,g⟩)
    · exact .inl (.inl g)
    ·
     rcases List.mem_cons.1 hb with q | hb
     · rw [q] at g;exact .inl (.inr g)
     ·
      have hle:leN s.1 (iM s.1 k (orL (s.1 k) (mD LD s.1 a))):=fun j z hz=>by
       by_cases q:j=k
       · rw [q,Ig];rw [q] at hz;exact (kX _ _ _).2 (.inl hz)
       · rw [XG _ _ q];exact hz
      exact .inr ⟨b,hb,Gg hle b g⟩
def Dz (LD:Nx) (NU:Nat->Bool):List Int->List Nat->List Int × Bool
 | l,[]=>(l,true)
 | l,b :: r=>if NU b=true then Dz LD NU (orL l (LD b)) r else (orL l (LD b),false)
theorem YI (LD:Nx) (NU:Nat->Bool) (T:Nx) (n k:Nat):∀ (r:List Nat) (l:List Int) (y:Int),(y ∈ (Dz LD NU l r).1\/((Dz LD NU l r).2=true/\y ∈ T n)) ↔ (y ∈ l\/∃ a ∈ Dy NU n k r,y ∈ mD LD T a)
 | [],l,y=>by show (y ∈ l\/(true=true/\y ∈ T n)) ↔ (y ∈ l\/∃ a ∈ [((k,false,n):gX)],y ∈ mD LD T a);simp [mD]
 | b :: r,l,y=>by
  have e:Dy NU n k (b :: r)=((k,true,b):gX) :: (if NU b=true then Dy NU n k r else []):=rfl;rw [e];have e2:mD LD T ((k,true,b):gX)=LD b:=rfl;by_cases h:NU b=true
  · have e3:Dz LD NU l (b :: r)=Dz LD NU (orL l (LD b)) r:=if_pos h;rw [if_pos h,e3,YI LD NU T n k r,kX];simp only [List.mem_cons,exists_eq_or_imp,e2];exact or_assoc
  · have e3:Dz LD NU l (b :: r)=(orL l (LD b),false):=if_neg h;rw [if_neg h,e3];simp only [List.mem_cons,List.not_mem_nil,or_false,exists_eq_left,e2,kX];simp
def A1D (LD:Nx) (NU:Nat->Bool) (n:Nat) (op:Int) (k:Nat) (r:List Nat) (T:Nx):List Int :=
 match (if op=4 then Dz LD NU [] r else ([],true)) with
 | (l,z)=>if (if op=9\/op=10 then false else z)=true then orL (if op=6\/op=7 then orL l (LD k) else l) (T n) else (if op=6\/op=7 then orL l (LD k) else l)
def NK (LD:Nx) (NU:Nat->Bool) (n:Nat) (op:Int):List Nat->Nx->Nx
 | [],T=>T
 | k :: r,T=>NK LD NU n op r (iM T k (orL (T k) (A1D LD NU n op k r T)))
def partA (NU:Nat->Bool) (n:Nat) (op:Int) (k:Nat) (r:List Nat):List gX :=
 if op=4 then Dy NU n k r else if op=6\/op=7 then [(k,true,k),(k,false,n)] else if op=9\/op=10 then [] else [(k,false,n)]
def NG (NU:Nat->Bool) (n:Nat) (op:Int):List Nat->List gX
 | []=>[]
 | k :: r=>partA NU n op k r ++ NG NU n op r
theorem B2J {NU:Nat->Bool} {n:Nat} {op:Int} {k:Nat} {r:List Nat}:∀ a ∈ partA NU n op k r,a.1=k:=fun a ha=>by
 unfold partA at ha;split at ha
 · exact UN NU n k r a ha
 split at ha
 · simp only [List.mem_cons,List.not_mem_nil,or_false] at ha;rcases ha with e | e <;> rw [e]
 split at ha
 · cases ha
 · rw [List.mem_singleton] at ha;rw [ha]
theorem B2H {LD:Nx} {NU:Nat->Bool} {n:Nat} {op:Int} {k:Nat} {r:List Nat} {T:Nx} (y:Int):y ∈ A1D LD NU n op k r T ↔ ∃ a ∈ partA NU n op k r,y ∈ mD LD T a:=by
 unfold A1D partA;by_cases h4:op=4
 ·
  have h:=YI LD NU T n k r [] y;simp only [List.not_mem_nil,false_or] at h;rw [if_pos h4,if_pos h4,<- h];have h9:¬ (op=9\/op=10):=by omega
  have h6:¬ (op=6\/op=7):=by omega
  cases hq:Dz LD NU [] r with
  | mk l z =>
   simp only;rw [if_neg h9,if_neg h6]
   cases z with
   | true=>rw [if_pos rfl,kX];simp
   | false=>rw [if_neg (by decide)];simp
 ·
  rw [if_neg h4,if_neg h4];simp only;by_cases h6:op=6\/op=7
  · have h9:¬ (op=9\/op=10):=(by omega);rw [if_pos h6,if_neg h9,if_pos h6,if_pos rfl,kX,kX];simp [mD]
  ·
   rw [if_neg h6,if_neg h6];by_cases h9:op=9\/op=10
   · rw [if_pos h9,if_pos h9,if_neg (by decide)];simp
   · rw [if_neg h9,if_neg h9,if_pos rfl,kX];simp [mD]
theorem A0T (LD:Nx) (NU:Nat->Bool) (n:Nat) (op:Int):∀ (ks:List Nat) (s:Nx × Bool),(∀ j,gF (s.1 j))->NK LD NU n op ks s.1=(eQ LD (NG NU n op ks) s).1
 | [],s,_=>rfl
 | k :: r,s,h=>by
  obtain ⟨X,hX,hr,hm⟩:=A5A LD k (partA NU n op k r) s B2J (h k);have e:iM s.1 k (orL (s.1 k) (A1D LD NU n op k r s.1))=(eQ LD (partA NU n op k r) s).1:=by
   rw [hX]
   congr 1
   exact gF.ext (gF.or _ (h k)) hr fun y=>by rw [kX,hm,B2H]
  have h2:∀ j,gF ((eQ LD (partA NU n op k r) s).1 j):=fun j=>by
   rw [hX];by_cases q:j=k
   · rw [q,Ig];exact hr
   · rw [XG _ _ q];exact h j
  show NK LD NU n op r (iM s.1 k (orL (s.1 k) (A1D LD NU n op k r s.1)))=(eQ LD (partA NU n op k r ++ NG NU n op r) s).1;rw [e,OD,A0T LD NU n op r _ h2]
theorem B2r (NU:Nat->Bool) (n:Nat):∀ (L:List Nat),yJ NU n L=NG NU n 4 L
 | []=>rfl
 | k :: r=>by show Dy NU n k r ++ yJ NU n r=partA NU n 4 k r ++ NG NU n 4 r;rw [B2r NU n r];unfold partA;rw [if_pos rfl]
theorem B7U {gr:Gj} {NU:Nat->Bool} {n:Nat} {x:Nj} (hx:gr.ns[n]?=some x) (h11:x.op ≠ 11):zF gr NU n=NG NU n x.op x.ks:=by
 rw [Gi hx];by_cases h9:x.op=9\/x.op=10
 ·
  rw [if_pos h9];have key:∀ L:List Nat,NG NU n x.op L=[]:=fun L=>by
   induction L with
   | nil=>rfl
   | cons k r ih =>
    show partA NU n x.op k r ++ NG NU n x.op r=[];rw [ih];unfold partA;rw [if_neg (by omega),if_neg (by omega),if_pos h9];rfl
  rw [key]
 rw [if_neg h9,if_neg h11];by_cases h4:x.op=4
 · rw [if_pos h4,h4];exact B2r NU n x.ks
 rw [if_neg h4];by_cases h6:x.op=6\/x.op=7
 ·
  rw [if_pos h6]
  induction x.ks with
  | nil=>rfl
  | cons k r ih =>
   rw [List.flatMap_cons,ih];show _=partA NU n x.op k r ++ NG NU n x.op r;unfold partA;rw [if_neg h4,if_pos h6]
 ·
  rw [if_neg h6]
  induction x.ks with
  | nil=>rfl
  | cons k r ih =>
   rw [List.map_cons,ih];show _=partA NU n x.op k r ++ NG NU n x.op r;unfold partA;rw [if_neg h4,if_neg h6,if_neg h9];rfl
def GY (gr:Gj) (LD:Nx) (n:Nat) (T:Nx):Nx:=match gr.ns[n]? with
 | none=>T
 | some x=>if x.op=11 then iM T (bY gr n) (orL (T (bY gr n)) (T n)) else NK LD (aZ gr) n x.op x.ks T
theorem A3S {gr:Gj} {LD:Nx} {n:Nat} {s:Nx × Bool} (hn:n < gr.ns.length) (h:∀ j,gF (s.1 j)):GY gr LD n s.1=(eQ LD (zF gr (aZ gr) n) s).1:=by
 obtain ⟨x,hx⟩:∃ x,gr.ns[n]?=some x:=⟨_,aG hn⟩;unfold GY;rw [hx];show (if x.op=11 then iM s.1 (bY gr n) (orL (s.1 (bY gr n)) (s.1 n)) else NK LD (aZ gr) n x.op x.ks s.1)=_;by_cases h11:x.op=11
 · rw [if_pos h11,Gi hx,if_neg (by omega),if_pos h11];show _=(addN (bY gr n) (s.1 n) s).1;rw [BK _ _ _ (h _)]
 · rw [if_neg h11,B7U hx h11];exact A0T LD (aZ gr) n x.op x.ks s h
def Ec (T:Nx):Nat->Nat
 | 0=>0
 | k + 1=>Ec T k + (T k).length
theorem Ta {N:Nat} {T:Nx} (h:∀ k,(T k).length<=N):∀ k,Ec T k + fU N T k=k * N
 | 0=>by simp [Ec,fU]
 | k + 1=>by have h1:=Ta h k;have h2:=h k;unfold Ec fU;rw [Nat.succ_mul];omega
theorem B4R {N:Nat} {T:Nx} (h:∀ k,(T k).length<=N) (k:Nat):Ec T k<=k * N:=by have:=Ta h k;omega
theorem gF.room {N:Nat} {L:List Int} (h:gF L) (hr:∀ x ∈ L,0<=x/\x < (N:Int)):L.length<=N:=by have:=gF.len (N:=N) L 0 h (fun y hy=>by have:=hr y hy;omega) (Nat.zero_le _);omega
theorem B5j (A B:List Int) (N:Nat) (hN:N<=1000) (hA:gF A/\∀ x ∈ A,0<=x/\x < (N:Int)) (hB:∀ x ∈ B,0<=x/\x < (N:Int)) (hl:(B.length:Int)<=1000) (va vb:Value) (C:Nat) (w:World) (ha:aO w C va A) (hb:aO w C vb B) (hC:C<=w.heap.size) :
  Calls Tryz.prog 48 #[va,vb] w fun e w'=>∃ v',e=.returned v'/\aO w' C v' (orL A B)/\Below w.heap.size w w':=by
 have HI0:=aH ha;have HJ0:=aH hb;have HBR:=aH hB;have HA0:=aH hA;have HC0:=aH hC;obtain ⟨bo,bc,rfl,hcap,-⟩:=hb;obtain ⟨m,hm⟩:∃ m,B.length=m:=⟨_,rfl⟩;have HM:=aH hm;obtain ⟨RES,hRES⟩:∃ z,orL A B=z:=⟨_,rfl⟩;have HRES:=aH (show RES=orL A (B.drop 0) from by rw [<- hRES];rfl);rw [hm] at hl hcap;rw [hm,hRES];have HJ1:=aH (show aO w C (.slice bo m bc) B from by rw [<- hm];exact HJ0.o);clear ha hA hB hC hm hRES HJ0;go_enter Tryz.func48,Tryz.ntmps48;go_wp2_with fail
 go_loopw [0,5] (fun v0 v5 wr=>∃ (k:Nat) (L:List Int) (vv:Value),vv=v0/\v5=.int .i64 (k:Int)/\(k:Int)<=m/\aQ (RES=orL L (B.drop k))/\aQ (aO wr C vv L)/\aQ (gF L/\∀ x ∈ L,0<=x/\x < (N:Int))/\aQ (Below w.heap.size w wr)) (fun _ v5 _=>m - (intOf v5).toNat)
 case atStart=>exact ⟨0,A,va,rfl,rfl,by omega,HRES,HI0,HA0,aH (Below.refl _ _)⟩
 case round =>
  obtain ⟨k,L,vv,rfl,rfl,hk,HR,HI,HL,HB⟩:=hrel;by_cases hkm:(k:Int) < m
  ·
   have hk1:decide ((k:Int) < (m:Int))=true:=aT hkm;have hk2:decide (k < m)=true:=aT (by omega);have hw1:IntKind.i64.wrap ((k:Int) + 1)=(k:Int) + 1:=wI;obtain ⟨x,hx⟩:∃ x,B[k]?=some x:=⟨_,aG (by have:=HM.o;omega)⟩;have HST:=aH (HR.o.trans (JM (a:=L) hx));have HXR:=aH (HBR.o x (aM hx));have hII:=HJ1.o.below HB.o;obtain ⟨g,off,hbo,hgl,c0⟩:∃ g off,bo=some ⟨g,off,none⟩/\g < wr.heap.size/\wr.cell? ⟨g,off + k,none⟩=some (.int .i64 x):=(by obtain ⟨ao1,c1,e1,-,hf⟩:=hII;injection e1 with e1 e2 e3;obtain ⟨g,off,e,h1,-,h3⟩:=hf k (by have:=HM.o;omega);refine ⟨g,off,e1.trans e,h1,?_⟩;rw [h3,List.getD_eq_getElem?_getD,hx];rfl);subst hbo;have HPU:=aH (vK L x (by have:=HL.o.1.room HL.o.2;omega) vv C wr HI.o (Nat.le_trans HC0.o HB.o.size));clear hx hII;go_wp2_with fail;refine HPU.o.mono ?_;rintro e w2 ⟨v2,he,hI2,hb2⟩;subst he;have HI2:=aH hI2;have HB2:=aH (aD HB.o hb2);have HL2:=aH (show gF (bT L x)/\∀ y ∈ bT L x,0<=y/\y < (N:Int) from ⟨HL.o.1.put x,fun y hy=>by rcases (lW x _ y).1 hy with rfl | hy;exact HXR.o;exact HL.o.2 y hy⟩);clear hI2 hb2 c0 hgl HPU;go_wp2
   go_roundw
   case rel=>exact ⟨k + 1,_,_,rfl,by go_num,by omega,HST,HI2,HL2,HB2⟩
   case measure=>simp [intOf];omega
  · have hk1:decide ((k:Int) < (m:Int))=false:=aF hkm;have hk2:decide (k < m)=false:=aF (by omega);have HE:=aH (show RES=L from by rw [HR.o,List.drop_of_length_le (by have:=HM.o;omega)];rfl);go_wp2;go_ret;rw [HE.o];exact ⟨_,rfl,HI.o,HB.o⟩
structure Bk (w:World) (E p u q C:Nat) (lo:Option Addr) (lc:Nat) (gr:Gj) (a:Gv) (LD:Nx) (T:Nx):Prop where
 ep:E<=p
 eq:E<=q
 pq:p ≠ q
 up:u ≠ p
 uq:u ≠ q
 pc:p < C
 qc:q < C
 own:Own w p 61 [.slice a.mo gr.ms.length a.mc,.slice a.no gr.ns.length a.nc,.slice a.ho gr.hs.length a.hc,.slice a.wo gr.ws.length a.wc,.int .i64 gr.st,.slice (some ⟨u,0,none⟩) gr.ns.length gr.ns.length,.slice lo gr.ns.length lc,.slice (some ⟨q,0,none⟩) gr.ns.length gr.ns.length]
 nu:Own w u 4 (bZ (aZ gr) gr.ns.length)
 nx:∃ V:Nat->Value,Own w q 25 ((List.range gr.ns.length).map V)/\∀ k,k < gr.ns.length->aO w C (V k) (T k)
 ld:∀ k,k < gr.ns.length->∃ b off v,lo=some ⟨b,off,none⟩/\b < w.heap.size/\C<=b/\w.cell? ⟨b,off + k,none⟩=some v/\aO w C v (LD k)
 hg:mG w (fun b=>b < E) gr a
 ok:∀ k,gF (T k)/\∀ x ∈ T k,0<=x/\x < (gr.ns.length:Int)
 sz:C<=w.heap.size
section
variable {w w':World} {E p u q C:Nat} {lo:Option Addr} {lc:Nat} {gr:Gj} {a:Gv} {LD:Nx} {T:Nx}
theorem Bk.below (h:Bk w E p u q C lo lc gr a LD T) (hb:Below w.heap.size w w'):Bk w' E p u q C lo lc gr a LD T:=by
 obtain ⟨V,h1,h2⟩:=h.nx
 exact ⟨h.ep,h.eq,h.pq,h.up,h.uq,h.pc,h.qc,h.own.under hb h.own.lt,h.nu.under hb h.nu.lt,⟨V,h1.under hb h1.lt,fun k hk=>(h2 k hk).below hb⟩,
  fun k hk=>by obtain ⟨b,off,v,e,h3,h4,h5,h6⟩:=h.ld k hk;exact ⟨b,off,v,e,aL h3 hb.size,h4,aC h5 hb,h6.below hb⟩,h.hg.below hb,h.ok,Nat.le_trans h.sz hb.size⟩
theorem Bk.len (h:Bk w E p u q C lo lc gr a LD T) (k:Nat):(T k).length<=gr.ns.length:=(h.ok k).1.room (h.ok k).2
theorem Bk.set (h:Bk w E p u q C lo lc gr a LD T) {n:Nat} {L:List Int} {v:Value} (hL:gF L/\∀ x ∈ L,0<=x/\x < (gr.ns.length:Int)) (hv:aO w C v L):Bk (w.setCell ⟨q,n,none⟩ v) E p u q C lo lc gr a LD (iM T n L):=by
 have hb:But (fun j=>j=q) w (w.setCell ⟨q,n,none⟩ v):=But.put w q n v;have hI:∀ {v':Value} {L:List Int},aO w C v' L->aO (w.setCell ⟨q,n,none⟩ v) C v' L:=fun hi=>hi.but hb (fun b hc _ e=>by have:=h.qc;have e:b=q:=e;omega);obtain ⟨V,h1,h2⟩:=h.nx;refine ⟨h.ep,h.eq,h.pq,h.up,h.uq,h.pc,h.qc,h.own.but hb h.pq,h.nu.but hb h.uq,⟨fun j=>if j=n then v else V j,?_,fun k hk=>?_⟩,fun k hk=>?_,?_,fun k=>?_,Nat.le_trans h.sz hb.size⟩
 ·
  have h3:=h1.put n v;have e:((List.range gr.ns.length).map V).set n v=(List.range gr.ns.length).map (fun j=>if j=n then v else V j):=by
   apply List.ext_getElem?;intro i;rw [List.getElem?_set,List.getElem?_map,List.getElem?_map,List.length_map,List.length_range];by_cases hi:i < gr.ns.length
   ·
    rw [List.getElem?_range hi];by_cases e:n=i
    · subst e;simp [hi]
    · simp [e,Ne.symm e]
   ·
    rw [List.getElem?_eq_none (by simpa using hi)];by_cases e:n=i
    · subst e;simp [hi]
    · simp [e]
  rw [e] at h3;exact h3
 ·
  show aO _ C (if k=n then v else V k) (iM T n L k);unfold iM;by_cases e:k=n
  · rw [if_pos e,if_pos e];exact hI hv
  · rw [if_neg e,if_neg e];exact hI (h2 k hk)
 · obtain ⟨b,off,v',e,h3,h4,h5,h6⟩:=h.ld k hk;exact ⟨b,off,v',e,aL h3 hb.size,h4,hb.cell (fun e=>by have:=h.qc;have e:b=q:=e;omega) h5,hI h6⟩
 · exact h.hg.but hb (fun j _ hj e=>by have:=h.eq;have e:j=q:=e;omega)
 ·
  unfold iM;split
  · exact hL
  · exact h.ok k
end
def BkE (E p u q C:Nat) (lo:Option Addr) (lc:Nat) (gr:Gj) (a:Gv) (LD:Nx) (T:Nx) (w:World) (e:Ending) (w':World):Prop:=e=.returned (.tuple #[])/\Bk w' E p u q C lo lc gr a LD T/\But (fun b=>b=q) w w'
theorem A7W {LD:Nx} {NU:Nat->Bool} {n:Nat} {op:Int} {ks:List Nat} {i k:Nat} {T:Nx} (h:ks[i]?=some k):NK LD NU n op (ks.drop i) T=NK LD NU n op (ks.drop (i + 1)) (iM T k (orL (T k) (A1D LD NU n op k (ks.drop (i + 1)) T))):=by obtain ⟨h1,h2⟩:=aS.1 h;rw [List.drop_eq_getElem_cons h1,h2];rfl
theorem A6u {LD:Nx} {NU:Nat->Bool} {L:List Int} {r:List Nat} {j b:Nat} (h:r[j]?=some b):Dz LD NU L (r.drop j)=if NU b=true then Dz LD NU (orL L (LD b)) (r.drop (j + 1)) else (orL L (LD b),false):=by obtain ⟨h1,h2⟩:=aS.1 h;rw [List.drop_eq_getElem_cons h1,h2];rfl
theorem Nz (gr:Gj) (a:Gv) (hg:Good gr) (har:∀ x ∈ gr.ns,Ar x) (E p u q C:Nat) (lo:Option Addr) (lc:Nat) (LD:Nx) (hLD:∀ j,((LD j).length:Int)<=1000/\∀ x ∈ LD j,0<=x/\x < (gr.ns.length:Int)) (n:Nat) (hn:n < gr.ns.length) (T:Nx) (w:World) (hS:Bk w E p u q C lo lc gr a LD T) :
  Calls Tryz.prog 25 #[.pointer (some ⟨p,0,none⟩),.int .i64 (n:Int)] w (BkE E p u q C lo lc gr a LD (GY gr LD n T) w):=by
 obtain ⟨x,hx⟩:∃ x,gr.ns[n]?=some x:=⟨_,aG hn⟩;have hxm:=aM hx;have HS0:=aH hS;have HNN:=aH hn;have HLD:=aH hLD;have HARX:=aH (har x hxm);have HKID:=aH (hg.kid x hxm);have HRS:=aH (show GY gr LD n T=if x.op=11 then iM T (bY gr n) (orL (T (bY gr n)) (T n)) else NK LD (aZ gr) n x.op x.ks T from by unfold GY;rw [hx]);have HOR:=aH (fun A B h1 h2 h3 va vb W h4 h5 h6=>B5j A B gr.ns.length (by have:=hg.len;omega) h1 h2 h3 va vb C W h4 h5 h6);have HBO:=aH (fun W h=>uQ gr a hg n hn W h);have HBL:=aH (jK hg hn);have hkl:=hg.kl x hxm;obtain ⟨b,off,ko,kc,hno,hb,hcap,c0,c1,c2,c3,c4,c5,c6,c7,c8,c9,hkk⟩:=hS.hg.1 n x hx;have HCP:=aH hcap;have hrow:=hS.own;have hn160:=hg.len;obtain ⟨RES,hRES⟩:∃ z,GY gr LD n T=z:=⟨_,rfl⟩;rw [hRES] at HRS;rw [hRES];unfold BkE;unfold grv at HBO;obtain ⟨nn,hnn⟩:∃ z,gr.ns.length=z:=⟨_,rfl⟩;have HLN:=aH hnn;obtain ⟨nk,hnk⟩:∃ z,x.ks.length=z:=⟨_,rfl⟩;have HNK:=aH hnk;obtain ⟨op,hop⟩:∃ z,x.op=z:=⟨_,rfl⟩;have HOP:=aH hop;rw [hnk] at c6 hkl;rw [hop] at c0 HRS;rw [hnn] at hn hn160;have p1:w.cell? ⟨p,1,none⟩=some (.slice (some ⟨b,off,none⟩) nn a.nc):=by rw [<- hno,<- hnn];exact hrow.cell 1
 have pl:=hrow.lt;have hn1:decide ((n:Int) < (nn:Int))=true:=aT (by omega);have hn2:decide (n < nn)=true:=aT hn;have hbl:Below w.heap.size w (w.alloc (.cells #[.int .i64 op,.string x.tx,.int .u64 x.s0,.int .u64 x.s1,.int .u64 x.s2,.int .u64 x.s3,.slice ko nk kc,.int .i64 x.tg,.int .i64 (x.mo:Int),.int .i64 x.ru] 45)):=bA _;have HS2:=aH (hS.below hbl);have HB2:=aH (show But (fun b=>b=q) w (w.alloc (.cells #[.int .i64 op,.string x.tx,.int .u64 x.s0,.int .u64 x.s1,.int .u64 x.s2,.int .u64 x.s3,.slice ko nk kc,.int .i64 x.tg,.int .i64 (x.mo:Int),.int .i64 x.ru] 45)) from But.of_below hbl);have HK2:=aH (hkk.below hbl);have HN2:=aH (Own.fresh w 45 [.int .i64 op,.string x.tx,.int .u64 x.s0,.int .u64 x.s1,.int .u64 x.s2,.int .u64 x.s3,.slice ko nk kc,.int .i64 x.tg,.int .i64 (x.mo:Int),.int .i64 x.ru]);have HXP:=aH (show p < w.heap.size/\q < w.heap.size from by obtain ⟨V,h1,-⟩:=hS.nx;exact ⟨hS.own.lt,h1.lt⟩);clear hx hxm hS hLD hg har hcap hkk hrow hRES hnn hnk hop hno hbl;go_enter Tryz.func25,Tryz.ntmps25;go_upto_region 1 with fail;obtain ⟨X,hX⟩:∃ z,w.heap.size=z:=⟨_,rfl⟩;rw [hX] at HN2 HXP;generalize w.alloc (.cells #[.int .i64 op,.string x.tx,.int .u64 x.s0,.int .u64 x.s1,.int .u64 x.s2,.int .u64 x.s3,.slice ko nk kc,.int .i64 x.tg,.int .i64 (x.mo:Int),.int .i64 x.ru] 45)=w2 at *;try rw [hX]
 clear hX c0 c1 c2 c3 c4 c5 c6 c7 c8 c9 hb p1 pl;have HXQ:=aH (show X ≠ q from by have:=HXP.o;omega);have y0:w2.cell? ⟨X,0,none⟩=some (.int .i64 op):=HN2.o.cell 0;have y6:w2.cell? ⟨X,6,none⟩=some (.slice ko nk kc):=HN2.o.cell 6;have yl:=HN2.o.lt;have hkc:=HCP.o.2;have hnk1:nk<=kc:=by have:=HNK.o;omega
 by_cases h11:op=11
 ·
  subst h11;have HE:=aH (show RES=iM T (bY gr n) (orL (T (bY gr n)) (T n)) from by rw [HRS.o,if_pos rfl]);have hk0:nk=0:=by have h:=HARX.o.kids;rw [HOP.o,HNK.o] at h;unfold dJ at h;simpa using h
  subst hk0;obtain ⟨B,hB⟩:∃ z,bY gr n=z:=⟨_,rfl⟩;rw [hB] at HBO HE HBL;rw [HLN.o] at HBO;have HBN:=aH (show B < nn from by have:=HBL.o;have:=HLN.o;omega);clear hB HRS;go_wp2_with fail
  go_loopw [5] (fun v5 wr=>v5=.int .i64 0/\w2=wr) (fun _ _=>0)
  case atStart=>exact ⟨rfl,rfl⟩
  case round =>
   obtain ⟨rfl,rfl⟩:=hrel;have s0:w2.cell? ⟨p,0,none⟩=some (.slice a.mo gr.ms.length a.mc):=HS2.o.own.cell 0;have s1:w2.cell? ⟨p,1,none⟩=some (.slice a.no nn a.nc):=(by rw [<- HLN.o];exact HS2.o.own.cell 1);have s2:w2.cell? ⟨p,2,none⟩=some (.slice a.ho gr.hs.length a.hc):=HS2.o.own.cell 2;have s3:w2.cell? ⟨p,3,none⟩=some (.slice a.wo gr.ws.length a.wc):=HS2.o.own.cell 3;have s4:w2.cell? ⟨p,4,none⟩=some (.int .i64 gr.st):=HS2.o.own.cell 4;have pl:=HS2.o.own.lt;have HC:=aH (HBO.o w2 ((HS2.o.hg.mono fun _ _ _=>trivial)));go_wp2_with fail;refine HC.o.mono ?_;rintro e w3 ⟨he,hb3⟩;subst he;have HS3:=aH (HS2.o.below hb3);have HB3:=aH (HB2.o.then_below hb3);clear hb3 HC s0 s1 s2 s3 s4 pl y0 y6 yl;obtain ⟨V,hV1,hV2⟩:=HS3.o.nx;have HV1:=aH hV1;have HV2:=aH hV2;have p7:w3.cell? ⟨p,7,none⟩=some (.slice (some ⟨q,0,none⟩) nn nn):=(by rw [<- HLN.o];exact HS3.o.own.cell 7);have pl:=HS3.o.own.lt;have qB:w3.cell? ⟨q,B,none⟩=some (V B):=(by rw [hV1.cell B,List.getElem?_map,List.getElem?_range HBL.o];rfl);have qn:w3.cell? ⟨q,n,none⟩=some (V n):=(by rw [hV1.cell n,List.getElem?_map,List.getElem?_range HNN.o];rfl);have ql:=hV1.lt;have hB1:decide ((B:Int) < (nn:Int))=true:=aT (by have:=HBN.o;omega);have hB2:decide (B < nn)=true:=aT HBN.o;have hB3:B < nn:=HBN.o;clear hV1 hV2;go_upto_region 20 with fail;refine bX (fun Wx=>p < Wx.heap.size/\Wx.cell? ⟨p,7,none⟩=some (.slice (some ⟨q,0,none⟩) nn nn)/\q < Wx.heap.size/\Wx.cell? ⟨q,B,none⟩=some (V B)/\Wx.cell? ⟨q,n,none⟩=some (V n)) 21 (by kernel_rfl) ?_;have HSS:=aH (show p < (World.drew w3).heap.size/\(World.drew w3).cell? ⟨p,7,none⟩=some (.slice (some ⟨q,0,none⟩) nn nn)/\q < (World.drew w3).heap.size/\(World.drew w3).cell? ⟨q,B,none⟩=some (V B)/\(World.drew w3).cell? ⟨q,n,none⟩=some (V n) from ⟨pl,p7,ql,qB,qn⟩);clear pl p7 ql qB qn;refine tC 0 rfl HSS.o ?_;go_simp;refine tC 1 rfl HSS.o ?_;go_simp;refine tC 2 rfl HSS.o ?_;go_simp;refine tD 3 [20,21] rfl HSS.o ?_;go_simp;refine tC 4 rfl HSS.o ?_;go_simp;refine tC 5 rfl HSS.o ?_;go_simp;refine tC 6 rfl HSS.o ?_;go_simp;refine tC 7 rfl HSS.o ?_;go_simp;refine tD 8 [10,11,19,20,21] rfl HSS.o ?_;go_simp;refine tC 9 rfl HSS.o ?_;go_simp;refine tC 10 rfl HSS.o ?_;go_simp;refine tD 11 [19,20,21] rfl HSS.o ?_;go_simp;refine tC 12 rfl HSS.o ?_;go_simp;refine tC 13 rfl HSS.o ?_;go_simp;refine tC 14 rfl HSS.o ?_;go_simp;refine tD 15 [17,18,19,20,21] rfl HSS.o ?_;go_simp;refine tC 16 rfl HSS.o ?_;go_simp;refine tC 17 rfl HSS.o ?_;go_simp;refine tD 18 [19,20,21] rfl HSS.o ?_;go_simp;refine aI.one (i:=19) (by kernel_rfl) (bB (f:=48) (vs:=#[V B,V n]) rfl (by kernel_rfl) (by go_simp) ((HOR.o (T B) (T n) (HS0.o.ok B) (HS0.o.ok n).2 (by have:=HS0.o.len n;have:=HLN.o;omega) (V B) (V n) (World.drew w3) ((HV2.o B HBL.o).below (Below.refl w3.heap.size w3).drew) ((HV2.o n HNN.o).below (Below.refl w3.heap.size w3).drew) HS3.o.sz).mono ?_));rintro e w4 ⟨v4,he,hI4,hb4⟩;have HS4:=aH ((HS3.o.below (Below.refl w3.heap.size w3).drew).below hb4);have HI4:=aH hI4;obtain ⟨ao4,n4,cap4,rfl⟩:∃ ao n c,v4=.slice ao n c:=(by obtain ⟨x1,x2,x3,-⟩:=hI4;exact ⟨x1,_,x2,x3⟩);have HB4:=aH (HB3.o.drew.then_below hb4);obtain ⟨V4,hV4,-⟩:=HS4.o.nx;have HQ4:=aH hV4;refine ⟨_,he,.inr (.inr ⟨aL HSS.o.1 hb4.size,aC HSS.o.2.1 hb4,aL HSS.o.2.2.1 hb4.size,aC HSS.o.2.2.2.1 hb4,aC HSS.o.2.2.2.2 hb4⟩),?_⟩;have HSW:=aH (show p < w4.heap.size/\w4.cell? ⟨p,7,none⟩=some (.slice (some ⟨q,0,none⟩) nn nn)/\q < w4.heap.size/\w4.cell? ⟨q,B,none⟩=some (V B)/\w4.cell? ⟨q,n,none⟩=some (V n) from ⟨aL HSS.o.1 hb4.size,aC HSS.o.2.1 hb4,aL HSS.o.2.2.1 hb4.size,aC HSS.o.2.2.2.1 hb4,aC HSS.o.2.2.2.2 hb4⟩);clear hb4 hI4 hV4 HSS;have qf:w4.frozen? ⟨q,B,none⟩=false:=HQ4.o.thaw B;obtain ⟨pl,p7,ql,qB,qn⟩:=HSW.o;go_simp;refine aI.one (i:=20) (by kernel_rfl) (aY (v:=.pointer (some ⟨q,B,none⟩)) (w':=w4) rfl (by kernel_rfl) (by go_simp;try rfl) ?_);refine ⟨.inr (.inr HSW.o),?_⟩;go_simp;refine aI.one (i:=21) (by kernel_rfl) (eX (w':=w4.setCell ⟨q,B,none⟩ (.slice ao4 n4 cap4)) rfl (by kernel_rfl) 25 (.tmp 157) (.tmp 156) rfl _ _ rfl rfl (by go_simp;try rfl) ⟨.inl rfl,?_⟩);refine aI.done (by kernel_rfl) ?_ _;have HS9:=aH (HS4.o.set (n:=B) (L:=orL (T B) (T n)) ⟨gF.or _ (HS0.o.ok B).1,fun y hy=>by rcases (kX _ _ _).1 hy with h | h;exact (HS0.o.ok B).2 y h;exact (HS0.o.ok n).2 y h⟩ HI4.o);have HB9:=aH (HB4.o.trans (But.put w4 q B (.slice ao4 n4 cap4)) (fun g _ h=>h));generalize w4.setCell ⟨q,B,none⟩ (.slice ao4 n4 cap4)=w9 at *;clear pl p7 ql qB qn qf;go_simp;try go_wp2
   first
    | (go_end0;rw [HE.o];exact ⟨rfl,HS9.o,HB9.o⟩)
    | (refine bodyPost_ret (results_none rfl _ _ _) rfl ?_;rw [HE.o];exact ⟨rfl,HS9.o,HB9.o⟩)
 ·
  have h11b:(op == 11)=false:=aN.2 h11;have h11d:decide (op=11)=false:=aF h11;have HR0:=aH (show RES=NK LD (aZ gr) n op (x.ks.drop 0) T from by rw [HRS.o,if_neg h11];rfl);have HW0:=aH (HN2.o);clear HRS h11;go_wp2_with fail;clear y0 y6 yl
  go_loopw [5] (fun v5 wr=>∃ (i:Nat) (t:Nx),v5=.int .i64 (i:Int)/\(i:Int)<=nk/\aQ (RES=NK LD (aZ gr) n op (x.ks.drop i) t)/\aQ (Bk wr E p u q C lo lc gr a LD t)/\aQ (Own wr X 45 [.int .i64 op,.string x.tx,.int .u64 x.s0,.int .u64 x.s1,.int .u64 x.s2,.int .u64 x.s3,.slice ko nk kc,.int .i64 x.tg,.int .i64 (x.mo:Int),.int .i64 x.ru])/\aQ (But (fun b=>b=q) w2 wr)) (fun v5 _=>nk - (intOf v5).toNat)
  case atStart=>exact ⟨0,T,rfl,by omega,HR0,HS2,HW0,aH (But.refl _ _)⟩
  case round =>
   obtain ⟨i,t,rfl,hi,HR,HS,HX,HB⟩:=hrel;obtain ⟨wo,hwo⟩:∃ z,z=wr:=⟨_,rfl⟩;subst hwo;clear HR0 HW0;have y0:wo.cell? ⟨X,0,none⟩=some (.int .i64 op):=HX.o.cell 0;have y6:wo.cell? ⟨X,6,none⟩=some (.slice ko nk kc):=HX.o.cell 6;have yl:=HX.o.lt;by_cases hin:(i:Int) < nk
   ·
    have hi1:decide ((i:Int) < (nk:Int))=true:=aT hin;have hi2:decide (i < nk)=true:=aT (by omega);have hi3:i < nk:=(by omega);have hw1:IntKind.i64.wrap ((i:Int) + 1)=(i:Int) + 1:=wI;obtain ⟨k,hk⟩:∃ z,x.ks[i]?=some z:=⟨_,aG (by have:=HNK.o;omega)⟩;have hkn0:k < gr.ns.length:=HKID.o k (aM hk);have HKN:=aH hkn0;have hkn:k < nn:=(by rw [<- HLN.o];exact hkn0);have hk1:decide ((k:Int) < (nn:Int))=true:=aT (by omega);have hk2:decide (k < nn)=true:=aT hkn;have HST:=aH (HR.o.trans (A7W hk));obtain ⟨kb,koff,hko,-,hbE,-⟩:=HK2.o i k hk;have HBE:=aH (show kb < E from hbE)
    have HKC:=aH (fun (W:World) (h:But (fun b=>b=q) w2 W) (j b:Nat) (hj:x.ks[j]?=some b)=>show W.cell? ⟨kb,koff + j,none⟩=some (.int .i64 (b:Int))/\kb < W.heap.size from by
     obtain ⟨b2,off2,e,-,-,h2⟩:=HK2.o j b hj;rw [hko] at e;injection e with e;injection e with e1 e2;subst e1 e2;have h3:=h.cell (by have:=HS0.o.eq;intro e;have e:kb=q:=e;have h:kb < E:=hbE;omega) h2
     exact ⟨h3,World.block_lt_of_cell? W _ h3⟩)
    subst hko;have HKI:=aH hk;clear hkn0 hbE hk
    go_upto_block 2 with fail
    obtain ⟨r,hr⟩:∃ z,x.ks.drop (i + 1)=z:=⟨_,rfl⟩;have HRD:=aH hr;rw [hr] at HST;clear hr
    go_cut [6,7] (fun v6 v7 wx=>∃ (vv:Value) (L:List Int) (z:Bool),vv=v6/\v7=.bool z/\aQ ((if op=4 then Dz LD (aZ gr) [] r else ([],true))=(L,z))/\aQ (aO wx C vv L)/\aQ (gF L/\∀ y ∈ L,0<=y/\y < (gr.ns.length:Int))/\aQ (Below wo.heap.size wo wx))
    case first =>
     by_cases h4:op=4
     ·
      subst h4;go_wp2_with fail;clear y0 y6 yl
      go_loopw [6,7,8] (fun v6 v7 v8 wx=>∃ (vv:Value) (j:Nat) (L:List Int) (z:Bool),vv=v6/\v7=.bool z/\v8=.int .i64 ((i + 1 + j:Nat):Int)/\((i + 1 + j:Nat):Int)<=nk/\aQ (Dz LD (aZ gr) [] r=if z=true then Dz LD (aZ gr) L (r.drop j) else (L,false))/\aQ (aO wx C vv L)/\aQ (gF L/\∀ y ∈ L,0<=y/\y < (gr.ns.length:Int))/\aQ (Below wo.heap.size wo wx)) (fun _ _ v8 _=>nk - (intOf v8).toNat)
      case atStart=>exact ⟨_,0,[],true,rfl,rfl,by first | rfl | (congr 1),by omega,aH (by rw [if_pos rfl];rfl),aH (aO.nil _ _),aH ⟨trivial,fun y hy=>(by cases hy)⟩,aH (Below.refl _ _)⟩
      case round =>
       obtain ⟨vv,j,L,z,rfl,rfl,rfl,hj,HF,HI,HL,HBW⟩:=hrel;have HS3:=aH (HS.o.below HBW.o);have HX3:=aH (HX.o.under HBW.o HX.o.lt);have hbt:But (fun b=>b=q) w2 wr:=HB.o.then_below HBW.o;obtain ⟨jj,hjj⟩:∃ z,i + 1 + j=z:=⟨_,rfl⟩;have HJJ:=aH hjj;rw [hjj] at hj;try rw [hjj]
       cases z with
       | false =>
        have y0:wr.cell? ⟨X,0,none⟩=some (.int .i64 4):=HX3.o.cell 0;have y6:wr.cell? ⟨X,6,none⟩=some (.slice (some ⟨kb,koff,none⟩) nk kc):=HX3.o.cell 6;have yl:=HX3.o.lt;have HE:=aH (show (if (4:Int)=4 then Dz LD (aZ gr) [] r else ([],true))=(L,false) from by rw [if_pos rfl,HF.o,if_neg (by decide)]);by_cases hjn:(jj:Int) < nk
        ·
         have hj1:decide ((jj:Int) < (nk:Int))=true:=aT hjn;have hj2:decide (jj < nk)=true:=aT (by omega);go_wp2_with fail
         go_meet
         exact ⟨_,L,false,rfl,rfl,HE,HI,HL,HBW⟩
        ·
         have hj1:decide ((jj:Int) < (nk:Int))=false:=aF hjn;have hj2:decide (jj < nk)=false:=aF (by omega);go_wp2_with fail
         go_meet
         exact ⟨_,L,false,rfl,rfl,HE,HI,HL,HBW⟩
       | true =>
        by_cases hjn:(jj:Int) < nk
        ·
         have hj1:decide ((jj:Int) < (nk:Int))=true:=aT hjn;have hj2:decide (jj < nk)=true:=aT (by omega);have hw2:IntKind.i64.wrap ((jj:Int) + 1)=(jj:Int) + 1:=wI;obtain ⟨b,hb⟩:∃ z,x.ks[jj]?=some z:=⟨_,aG (by have:=HNK.o;omega)⟩;have hrb:r[j]?=some b:=(by rw [<- HRD.o,List.getElem?_drop,HJJ.o];exact hb);have hbn0:b < gr.ns.length:=HKID.o b (aM hb);have HBN:=aH hbn0;have hbn:b < nn:=(by rw [<- HLN.o];exact hbn0);have hb1:decide ((b:Int) < (nn:Int))=true:=aT (by omega);have hb2:decide (b < nn)=true:=aT hbn;have HFS:=aH (show Dz LD (aZ gr) [] r=if aZ gr b=true then Dz LD (aZ gr) (orL L (LD b)) (r.drop (j + 1)) else (orL L (LD b),false) from by rw [HF.o,if_pos rfl,A6u hrb]);obtain ⟨kc0,kbl⟩:=HKC.o wr hbt jj b hb;obtain ⟨lb,loff,lv,hlo,hlb,-,l0,hli⟩:=HS3.o.ld b hbn0;have HKJ:=aH hb;have HC:=aH (fun W (hW:Below wr.heap.size wr W)=>HOR.o L (LD b) HL.o (HLD.o b).2 (HLD.o b).1 vv lv W (HI.o.below hW) (hli.below hW) (Nat.le_trans HS3.o.sz hW.size));have y0:wr.cell? ⟨X,0,none⟩=some (.int .i64 4):=HX3.o.cell 0;have y6:wr.cell? ⟨X,6,none⟩=some (.slice (some ⟨kb,koff,none⟩) nk kc):=HX3.o.cell 6;have yl:=HX3.o.lt;have p6:wr.cell? ⟨p,6,none⟩=some (.slice lo nn lc):=(by rw [<- HLN.o];exact HS3.o.own.cell 6);have pl:=HS3.o.own.lt;subst hlo;clear hb hrb hbn0 hli hbt;go_upto_region 9 with fail;refine bX (fun Wx=>p < Wx.heap.size/\Wx.cell? ⟨p,6,none⟩=some (.slice (some ⟨lb,loff,none⟩) nn lc)/\X < Wx.heap.size/\Wx.cell? ⟨X,6,none⟩=some (.slice (some ⟨kb,koff,none⟩) nk kc)/\kb < Wx.heap.size/\Wx.cell? ⟨kb,koff + jj,none⟩=some (.int .i64 (b:Int))/\lb < Wx.heap.size/\Wx.cell? ⟨lb,loff + b,none⟩=some lv) 12 (by kernel_rfl) ?_;have HSS:=aH (show p < (World.drew wr).heap.size/\(World.drew wr).cell? ⟨p,6,none⟩=some (.slice (some ⟨lb,loff,none⟩) nn lc)/\X < (World.drew wr).heap.size/\(World.drew wr).cell? ⟨X,6,none⟩=some (.slice (some ⟨kb,koff,none⟩) nk kc)/\kb < (World.drew wr).heap.size/\(World.drew wr).cell? ⟨kb,koff + jj,none⟩=some (.int .i64 (b:Int))/\lb < (World.drew wr).heap.size/\(World.drew wr).cell? ⟨lb,loff + b,none⟩=some lv from ⟨pl,p6,yl,y6,kbl,kc0,hlb,l0⟩);clear pl p6 yl y6 kbl kc0 hlb l0 y0;refine tC 0 rfl HSS.o ?_;go_simp;refine tC 1 rfl HSS.o ?_;go_simp;refine tC 2 rfl HSS.o ?_;go_simp;refine tC 3 rfl HSS.o ?_;go_simp;refine tD 4 [10,11,12] rfl HSS.o ?_;go_simp;refine tC 5 rfl HSS.o ?_;go_simp;refine tD 6 [8,9,10,11,12] rfl HSS.o ?_;go_simp;refine tC 7 rfl HSS.o ?_;go_simp;refine tC 8 rfl HSS.o ?_;go_simp;refine tD 9 [10,11,12] rfl HSS.o ?_;go_simp;refine tC 10 rfl HSS.o ?_;go_simp;refine tD 11 [12] rfl HSS.o ?_;go_simp;refine aI.one (i:=12) (by kernel_rfl) (bB (f:=48) (vs:=#[vv,lv]) rfl (by kernel_rfl) (by go_simp) ((HC.o (World.drew wr) (Below.refl wr.heap.size wr).drew).mono ?_));rintro e w4 ⟨v4,he,hI4,hb4⟩;refine ⟨_,he,.inl rfl,?_⟩;have hbd:Below wr.heap.size wr w4:=((Below.refl wr.heap.size wr).drew).trans hb4;have HI4:=aH hI4;have HS4:=aH (HS3.o.below hbd);have HX4:=aH (HX3.o.under hbd HX3.o.lt);have HB4:=aH (aD HBW.o hbd);have HL4:=aH (show gF (orL L (LD b))/\∀ y ∈ orL L (LD b),0<=y/\y < (gr.ns.length:Int) from ⟨gF.or _ HL.o.1,fun y hy=>by rcases (kX _ _ _).1 hy with h | h;exact HL.o.2 y h;exact (HLD.o b).2 y h⟩);have HKB:=aH (HKC.o w4 (HB.o.then_below HB4.o) jj b (by have:=HKI.o;exact HKJ.o));clear hI4 hb4 hbd HSS HC;go_simp;refine aI.one (i:=13) (by kernel_rfl) (aY (v:=v4) (w':=w4) rfl (by kernel_rfl) (by go_simp;try rfl) ?_);refine ⟨.inr (.inl rfl),?_⟩;refine aI.done (by kernel_rfl) ?_ _;go_simp;have y6:w4.cell? ⟨X,6,none⟩=some (.slice (some ⟨kb,koff,none⟩) nk kc):=HX4.o.cell 6;have yl:=HX4.o.lt;obtain ⟨kc0,kbl⟩:=HKB.o;have p5:w4.cell? ⟨p,5,none⟩=some (.slice (some ⟨u,0,none⟩) nn nn):=(by rw [<- HLN.o];exact HS4.o.own.cell 5);have pl:=HS4.o.own.lt;have u0:w4.cell? ⟨u,b,none⟩=some (.bool (aZ gr b)):=(HS4.o.nu.cell b).trans (bH _ _ b HBN.o);have ul:=HS4.o.nu.lt;obtain ⟨nb,hnb⟩:∃ z,aZ gr b=z:=⟨_,rfl⟩;rw [hnb] at u0;have HFT:=aH (show Dz LD (aZ gr) [] r=if nb=true then Dz LD (aZ gr) (orL L (LD b)) (r.drop (j + 1)) else (orL L (LD b),false) from by rw [HFS.o,hnb]);clear hnb HFS;go_upto_region 10 with fail;go_quiet (fail);clear y6 yl kc0 kbl p5 pl u0 ul;go_wp2
         go_roundw
         case rel=>exact ⟨_,j + 1,_,nb,rfl,rfl,by rw [<- HJJ.o];go_num,by omega,HFT,HI4,HL4,aH (below_drewN HB4.o _)⟩
         case measure=>simp [intOf];omega
        ·
         have hj1:decide ((jj:Int) < (nk:Int))=false:=aF hjn;have hj2:decide (jj < nk)=false:=aF (by omega);have y0:wr.cell? ⟨X,0,none⟩=some (.int .i64 4):=HX3.o.cell 0;have y6:wr.cell? ⟨X,6,none⟩=some (.slice (some ⟨kb,koff,none⟩) nk kc):=HX3.o.cell 6;have yl:=HX3.o.lt;have HE:=aH (show (if (4:Int)=4 then Dz LD (aZ gr) [] r else ([],true))=(L,true) from by rw [if_pos rfl,HF.o,if_pos rfl,List.drop_of_length_le (by have h:=congrArg List.length HRD.o;rw [List.length_drop] at h;have:=HNK.o;have:=HJJ.o;omega)];rfl);go_wp2_with fail
         go_meet
         exact ⟨_,L,true,rfl,rfl,HE,HI,HL,HBW⟩
     ·
      have h4b:(op == 4)=false:=aN.2 h4;have h4d:decide (op=4)=false:=aF h4;have HE:=aH (show (if op=4 then Dz LD (aZ gr) [] r else (([]:List Int),true))=([],true) from if_neg h4);have hi4:(i:Int) + 1<=nk:=(by omega);go_wp2_with fail
      go_loopw [6,7,8] (fun v6 v7 v8 wx=>v6=.slice none 0 0/\v7=.bool true/\v8=.int .i64 ((i:Int) + 1)/\wo=wx) (fun _ _ _ _=>0)
      case atStart=>exact ⟨rfl,rfl,rfl,rfl⟩
      case round =>
       obtain ⟨rfl,rfl,rfl,rfl⟩:=hrel;by_cases hjn:(i:Int) + 1 < nk
       ·
        have hj1:decide ((i:Int) + 1 < (nk:Int))=true:=aT hjn;go_wp2_with fail
        go_meet
        exact ⟨_,[],true,rfl,rfl,HE,aH (aO.nil _ _),aH ⟨trivial,fun y hy=>(by cases hy)⟩,aH (Below.refl _ _)⟩
       ·
        have hj1:decide ((i:Int) + 1 < (nk:Int))=false:=aF hjn;go_wp2_with fail
        go_meet
        exact ⟨_,[],true,rfl,rfl,HE,aH (aO.nil _ _),aH ⟨trivial,fun y hy=>(by cases hy)⟩,aH (Below.refl _ _)⟩
    case rest =>
    obtain ⟨v6,L1,z1,rfl,rfl,HP1,HI1,HL1,HBC⟩:=hcut;obtain ⟨WA,hwA⟩:∃ z,z=wc:=⟨_,rfl⟩;subst hwA;have HSC:=aH (HS.o.below HBC.o);have HXC:=aH (HX.o.under HBC.o HX.o.lt);have HBT:=aH (HB.o.then_below HBC.o);clear y0 y6 yl HS HX HB HBC;go_upto_region 11 with fail
    go_cut [73] (fun s73 wx=>s73=.bool (decide (op=6\/op=7))/\WA=wx)
    case first =>
     have y0:WA.cell? ⟨X,0,none⟩=some (.int .i64 op):=HXC.o.cell 0;have yl:=HXC.o.lt;by_cases h6:op=6
     ·
      have h6b:(op == 6)=true:=beq_iff_eq.2 h6;have h6c:decide (op=6\/op=7)=true:=aT (.inl h6);go_wp2_with fail
      go_meet
      exact ⟨by rw [h6c],rfl⟩
     ·
      have h6b:(op == 6)=false:=aN.2 h6;have h6d:decide (op=6)=false:=aF h6;by_cases h7:op=7
      ·
       have h7b:(op == 7)=true:=beq_iff_eq.2 h7;have h6c:decide (op=6\/op=7)=true:=aT (.inr h7);go_wp2_with fail
       go_meet
       exact ⟨by rw [h6c],rfl⟩
      ·
       have h7b:(op == 7)=false:=aN.2 h7;have h7d:decide (op=7)=false:=aF h7;have h6c:decide (op=6\/op=7)=false:=aF (fun h=>h.elim h6 h7);go_wp2_with fail
       go_meet
       exact ⟨by rw [h6c],rfl⟩
    case rest =>
    obtain ⟨rfl,rfl⟩:=hcut
    go_upto_if 73 with fail
    go_cut [6] (fun s6 wx=>∃ vv:Value,vv=s6/\aQ (aO wx C vv (if op=6\/op=7 then orL L1 (LD k) else L1))/\aQ (Below WA.heap.size WA wx))
    case first =>
     obtain ⟨kc0,kbl⟩:=HKC.o WA HBT.o i k HKI.o;obtain ⟨lb,loff,lv,hlo,hlb,-,l0,hli⟩:=HSC.o.ld k HKN.o;have HC:=aH (fun W (hW:Below WA.heap.size WA W)=>HOR.o L1 (LD k) HL1.o (HLD.o k).2 (HLD.o k).1 v6 lv W (HI1.o.below hW) (hli.below hW) (Nat.le_trans HSC.o.sz hW.size));have p6:WA.cell? ⟨p,6,none⟩=some (.slice lo nn lc):=(by rw [<- HLN.o];exact HSC.o.own.cell 6);have pl:=HSC.o.own.lt;have y0:WA.cell? ⟨X,0,none⟩=some (.int .i64 op):=HXC.o.cell 0;have y6:WA.cell? ⟨X,6,none⟩=some (.slice (some ⟨kb,koff,none⟩) nk kc):=HXC.o.cell 6;have yl:=HXC.o.lt;subst hlo;clear hli;by_cases h67:op=6\/op=7
     ·
      have HE:=aH (show (if op=6\/op=7 then orL L1 (LD k) else L1)=orL L1 (LD k) from if_pos h67);have h67c:decide (op=6\/op=7)=true:=aT h67;rw [h67c];go_upto_region 12 with fail;refine bX (fun Wx=>p < Wx.heap.size/\Wx.cell? ⟨p,6,none⟩=some (.slice (some ⟨lb,loff,none⟩) nn lc)/\X < Wx.heap.size/\Wx.cell? ⟨X,6,none⟩=some (.slice (some ⟨kb,koff,none⟩) nk kc)/\kb < Wx.heap.size/\Wx.cell? ⟨kb,koff + i,none⟩=some (.int .i64 (k:Int))/\lb < Wx.heap.size/\Wx.cell? ⟨lb,loff + k,none⟩=some lv) 12 (by kernel_rfl) ?_;have HSS:=aH (show p < (World.drew WA).heap.size/\(World.drew WA).cell? ⟨p,6,none⟩=some (.slice (some ⟨lb,loff,none⟩) nn lc)/\X < (World.drew WA).heap.size/\(World.drew WA).cell? ⟨X,6,none⟩=some (.slice (some ⟨kb,koff,none⟩) nk kc)/\kb < (World.drew WA).heap.size/\(World.drew WA).cell? ⟨kb,koff + i,none⟩=some (.int .i64 (k:Int))/\lb < (World.drew WA).heap.size/\(World.drew WA).cell? ⟨lb,loff + k,none⟩=some lv from ⟨pl,p6,yl,y6,kbl,kc0,hlb,l0⟩);clear pl p6 yl y6 kbl kc0 hlb l0 y0;refine tC 0 rfl HSS.o ?_;go_simp;refine tC 1 rfl HSS.o ?_;go_simp;refine tC 2 rfl HSS.o ?_;go_simp;refine tC 3 rfl HSS.o ?_;go_simp;refine tD 4 [10,11,12] rfl HSS.o ?_;go_simp;refine tC 5 rfl HSS.o ?_;go_simp;refine tD 6 [8,9,10,11,12] rfl HSS.o ?_;go_simp;refine tC 7 rfl HSS.o ?_;go_simp;refine tC 8 rfl HSS.o ?_;go_simp;refine tD 9 [10,11,12] rfl HSS.o ?_;go_simp;refine tC 10 rfl HSS.o ?_;go_simp;refine tD 11 [12] rfl HSS.o ?_;go_simp;refine aI.one (i:=12) (by kernel_rfl) (bB (f:=48) (vs:=#[v6,lv]) rfl (by kernel_rfl) (by go_simp) ((HC.o (World.drew WA) (Below.refl WA.heap.size WA).drew).mono ?_));rintro e w4 ⟨v4,he,hI4,hb4⟩;refine ⟨_,he,.inl rfl,?_⟩;have hbd:Below WA.heap.size WA w4:=((Below.refl WA.heap.size WA).drew).trans hb4;have HI4:=aH hI4;have HB4:=aH hbd;clear hI4 hb4 hbd HSS HC;go_simp;refine aI.one (i:=13) (by kernel_rfl) (aY (v:=v4) (w':=w4) rfl (by kernel_rfl) (by go_simp;try rfl) ?_);refine ⟨.inr (.inl rfl),?_⟩;refine aI.done (by kernel_rfl) ?_ _;go_simp;try go_wp2_with fail
      go_meet
      rw [HE.o];exact ⟨_,rfl,HI4,HB4⟩
     ·
      have HE:=aH (show (if op=6\/op=7 then orL L1 (LD k) else L1)=L1 from if_neg h67);have h67c:decide (op=6\/op=7)=false:=aF h67;rw [h67c];go_wp2_with fail
      go_meet
      rw [HE.o];exact ⟨_,rfl,HI1,aH (Below.refl _ _)⟩
    case rest =>
    obtain ⟨vB,rfl,HI2,HBC⟩:=hcut;obtain ⟨WB,hwB⟩:∃ z,z=wc:=⟨_,rfl⟩;subst hwB;obtain ⟨L2,hL2⟩:∃ z,(if op=6\/op=7 then orL L1 (LD k) else L1)=z:=⟨_,rfl⟩;have HP2:=aH hL2
    have HL2:=aH (show gF L2/\∀ y ∈ L2,0<=y/\y < (gr.ns.length:Int) from by
     rw [<- hL2];split
     · exact ⟨gF.or _ HL1.o.1,fun y hy=>by rcases (kX _ _ _).1 hy with h | h;exact HL1.o.2 y h;exact (HLD.o k).2 y h⟩
     · exact HL1.o)
    rw [hL2] at HI2;clear hL2;have HSD:=aH (HSC.o.below HBC.o);have HXD:=aH (HXC.o.under HBC.o HXC.o.lt);have HBD:=aH (HBT.o.then_below HBC.o);clear HSC HXC HBT HBC HI1;go_upto_region 13 with fail
    go_cut [94] (fun s94 wx=>s94=.bool (decide (op=9\/op=10))/\WB=wx)
    case first =>
     have y0:WB.cell? ⟨X,0,none⟩=some (.int .i64 op):=HXD.o.cell 0;have yl:=HXD.o.lt;by_cases h6:op=9
     ·
      have h6b:(op == 9)=true:=beq_iff_eq.2 h6;have h6c:decide (op=9\/op=10)=true:=aT (.inl h6);go_wp2_with fail
      go_meet
      exact ⟨by rw [h6c],rfl⟩
     ·
      have h6b:(op == 9)=false:=aN.2 h6;have h6d:decide (op=9)=false:=aF h6;by_cases h7:op=10
      ·
       have h7b:(op == 10)=true:=beq_iff_eq.2 h7;have h6c:decide (op=9\/op=10)=true:=aT (.inr h7);go_wp2_with fail
       go_meet
       exact ⟨by rw [h6c],rfl⟩
      ·
       have h7b:(op == 10)=false:=aN.2 h7;have h7d:decide (op=10)=false:=aF h7;have h6c:decide (op=9\/op=10)=false:=aF (fun h=>h.elim h6 h7);go_wp2_with fail
       go_meet
       exact ⟨by rw [h6c],rfl⟩
    case rest =>
    obtain ⟨rfl,rfl⟩:=hcut
    go_upto_if 94 with fail
    go_cut [7] (fun v7 wx=>v7=.bool (if op=9\/op=10 then false else z1)/\WB=wx)
    case first =>
     by_cases h90:op=9\/op=10
     ·
      have HE:=aH (show (if op=9\/op=10 then false else z1)=false from if_pos h90);have h67c:decide (op=9\/op=10)=true:=aT h90;rw [h67c];go_wp2_with fail
      go_meet
      rw [HE.o];exact ⟨rfl,rfl⟩
     ·
      have HE:=aH (show (if op=9\/op=10 then false else z1)=z1 from if_neg h90);have h67c:decide (op=9\/op=10)=false:=aF h90;rw [h67c];go_wp2_with fail
      go_meet
      rw [HE.o];exact ⟨rfl,rfl⟩
    case rest =>
    obtain ⟨rfl,rfl⟩:=hcut;obtain ⟨z2,hz2⟩:∃ z,(if op=9\/op=10 then false else z1)=z:=⟨_,rfl⟩;have HZ2:=aH hz2;rw [hz2];clear hz2
    go_upto_if 95 with fail
    go_cut [6] (fun s6 wx=>∃ vv:Value,vv=s6/\aQ (aO wx C vv (if z2=true then orL L2 (t n) else L2))/\aQ (Below WB.heap.size WB wx))
    case first =>
     obtain ⟨V,hV1,hV2⟩:=HSD.o.nx;have HV2:=aH hV2;have p7:WB.cell? ⟨p,7,none⟩=some (.slice (some ⟨q,0,none⟩) nn nn):=(by rw [<- HLN.o];exact HSD.o.own.cell 7);have pl:=HSD.o.own.lt;have qn:WB.cell? ⟨q,n,none⟩=some (V n):=(by rw [hV1.cell n,List.getElem?_map,List.getElem?_range HNN.o];rfl);have ql:=hV1.lt;have HC:=aH (HOR.o L2 (t n) HL2.o (HSD.o.ok n).2 (by have:=HSD.o.len n;have:=HLN.o;omega) vB (V n) WB HI2.o (HV2.o n HNN.o) HSD.o.sz);clear hV1 hV2
     cases z2 with
     | false =>
      go_wp2_with fail
      go_meet
      rw [if_neg (by decide)];exact ⟨_,rfl,HI2,aH (Below.refl _ _)⟩
     | true =>
      go_wp2_with fail;refine HC.o.mono ?_;rintro e w4 ⟨v4,he,hI4,hb4⟩;subst he;have HI4:=aH hI4;have HB4:=aH hb4;clear hI4 hb4;go_wp2_with fail
      go_meet
      first | rw [if_pos rfl] | rw [if_pos trivial]
      exact ⟨_,rfl,HI4,HB4⟩
    case rest =>
    obtain ⟨vC,rfl,HI3,HBC⟩:=hcut;obtain ⟨WD,hwD⟩:∃ z,z=wc:=⟨_,rfl⟩;subst hwD;obtain ⟨L3,hL3⟩:∃ z,(if z2=true then orL L2 (t n) else L2)=z:=⟨_,rfl⟩
    have HL3:=aH (show gF L3/\∀ y ∈ L3,0<=y/\y < (gr.ns.length:Int) from by
     rw [<- hL3];split
     · exact ⟨gF.or _ HL2.o.1,fun y hy=>by rcases (kX _ _ _).1 hy with h | h;exact HL2.o.2 y h;exact (HSD.o.ok n).2 y h⟩
     · exact HL2.o)
    have HPL:=aH (show A1D LD (aZ gr) n op k r t=L3 from by
     unfold A1D;rw [HP1.o];simp only;rw [HP2.o,HZ2.o]
     exact hL3)
    rw [hL3] at HI3;rw [HPL.o] at HST;clear hL3;have HSE:=aH (HSD.o.below HBC.o);have HXE:=aH (HXD.o.under HBC.o HXD.o.lt);have HBF:=aH (HBD.o.then_below HBC.o);clear HSD HXD HBD HBC HI2 HP1 HP2 HZ2;obtain ⟨kc0,kbl⟩:=HKC.o WD HBF.o i k HKI.o;obtain ⟨V,hV1,hV2⟩:=HSE.o.nx;have HV1:=aH hV1;have HV2:=aH hV2;have p7:WD.cell? ⟨p,7,none⟩=some (.slice (some ⟨q,0,none⟩) nn nn):=(by rw [<- HLN.o];exact HSE.o.own.cell 7);have pl:=HSE.o.own.lt;have qk:WD.cell? ⟨q,k,none⟩=some (V k):=(by rw [hV1.cell k,List.getElem?_map,List.getElem?_range HKN.o];rfl);have ql:=hV1.lt;have y0:WD.cell? ⟨X,0,none⟩=some (.int .i64 op):=HXE.o.cell 0;have y6:WD.cell? ⟨X,6,none⟩=some (.slice (some ⟨kb,koff,none⟩) nk kc):=HXE.o.cell 6;have yl:=HXE.o.lt;clear hV1 hV2 y0;go_upto_region 17 with fail;refine bX (fun Wx=>p < Wx.heap.size/\Wx.cell? ⟨p,7,none⟩=some (.slice (some ⟨q,0,none⟩) nn nn)/\X < Wx.heap.size/\Wx.cell? ⟨X,6,none⟩=some (.slice (some ⟨kb,koff,none⟩) nk kc)/\kb < Wx.heap.size/\Wx.cell? ⟨kb,koff + i,none⟩=some (.int .i64 (k:Int))/\q < Wx.heap.size/\Wx.cell? ⟨q,k,none⟩=some (V k)) 23 (by kernel_rfl) ?_;have HSS:=aH (show p < (World.drew WD).heap.size/\(World.drew WD).cell? ⟨p,7,none⟩=some (.slice (some ⟨q,0,none⟩) nn nn)/\X < (World.drew WD).heap.size/\(World.drew WD).cell? ⟨X,6,none⟩=some (.slice (some ⟨kb,koff,none⟩) nk kc)/\kb < (World.drew WD).heap.size/\(World.drew WD).cell? ⟨kb,koff + i,none⟩=some (.int .i64 (k:Int))/\q < (World.drew WD).heap.size/\(World.drew WD).cell? ⟨q,k,none⟩=some (V k) from ⟨pl,p7,yl,y6,kbl,kc0,ql,qk⟩);clear pl p7 yl y6 kbl kc0 ql qk;refine tC 0 rfl HSS.o ?_;go_simp;refine tC 1 rfl HSS.o ?_;go_simp;refine tC 2 rfl HSS.o ?_;go_simp;refine tD 3 [22,23] rfl HSS.o ?_;go_simp;refine tC 4 rfl HSS.o ?_;go_simp;refine tD 5 [7,8,22,23] rfl HSS.o ?_;go_simp;refine tC 6 rfl HSS.o ?_;go_simp;refine tC 7 rfl HSS.o ?_;go_simp;refine tD 8 [22,23] rfl HSS.o ?_;go_simp;refine tC 9 rfl HSS.o ?_;go_simp;refine tC 10 rfl HSS.o ?_;go_simp;refine tC 11 rfl HSS.o ?_;go_simp;refine tD 12 [18,19,21,22,23] rfl HSS.o ?_;go_simp;refine tC 13 rfl HSS.o ?_;go_simp;refine tD 14 [16,17,18,19,21,22,23] rfl HSS.o ?_;go_simp;refine tC 15 rfl HSS.o ?_;go_simp;refine tC 16 rfl HSS.o ?_;go_simp;refine tD 17 [18,19,21,22,23] rfl HSS.o ?_;go_simp;refine tC 18 rfl HSS.o ?_;go_simp;refine tD 19 [21,22,23] rfl HSS.o ?_;go_simp;refine tC 20 rfl HSS.o ?_;go_simp;refine aI.one (i:=21) (by kernel_rfl) (bB (f:=48) (vs:=#[V k,vC]) rfl (by kernel_rfl) (by go_simp) ((HOR.o (t k) L3 (HSE.o.ok k) HL3.o.2 (by have:=HL3.o.1.room HL3.o.2;have:=HLN.o;omega) (V k) vC (World.drew WD) ((HV2.o k HKN.o).below (Below.refl WD.heap.size WD).drew) (HI3.o.below (Below.refl WD.heap.size WD).drew) HSE.o.sz).mono ?_));rintro e w4 ⟨v4,he,hI4,hb4⟩;have HS4:=aH ((HSE.o.below (Below.refl WD.heap.size WD).drew).below hb4);have HI4:=aH hI4;obtain ⟨ao4,n4,cap4,rfl⟩:∃ ao n c,v4=.slice ao n c:=(by obtain ⟨x1,x2,x3,-⟩:=hI4;exact ⟨x1,_,x2,x3⟩);have HB4:=aH (HBF.o.drew.then_below hb4);have HX4:=aH (((HXE.o.on_drew).under hb4 HXE.o.lt));obtain ⟨V4,hV4,-⟩:=HS4.o.nx;have HQ4:=aH hV4;refine ⟨_,he,.inr (.inr ⟨aL HSS.o.1 hb4.size,aC HSS.o.2.1 hb4,aL HSS.o.2.2.1 hb4.size,aC HSS.o.2.2.2.1 hb4,aL HSS.o.2.2.2.2.1 hb4.size,aC HSS.o.2.2.2.2.2.1 hb4,aL HSS.o.2.2.2.2.2.2.1 hb4.size,aC HSS.o.2.2.2.2.2.2.2 hb4⟩),?_⟩;have HSW:=aH (show p < w4.heap.size/\w4.cell? ⟨p,7,none⟩=some (.slice (some ⟨q,0,none⟩) nn nn)/\X < w4.heap.size/\w4.cell? ⟨X,6,none⟩=some (.slice (some ⟨kb,koff,none⟩) nk kc)/\kb < w4.heap.size/\w4.cell? ⟨kb,koff + i,none⟩=some (.int .i64 (k:Int))/\q < w4.heap.size/\w4.cell? ⟨q,k,none⟩=some (V k) from ⟨aL HSS.o.1 hb4.size,aC HSS.o.2.1 hb4,aL HSS.o.2.2.1 hb4.size,aC HSS.o.2.2.2.1 hb4,aL HSS.o.2.2.2.2.1 hb4.size,aC HSS.o.2.2.2.2.2.1 hb4,aL HSS.o.2.2.2.2.2.2.1 hb4.size,aC HSS.o.2.2.2.2.2.2.2 hb4⟩);clear hb4 hI4 hV4 HSS;have qf:w4.frozen? ⟨q,k,none⟩=false:=HQ4.o.thaw k;obtain ⟨pl,p7,yl,y6,kbl,kc0,ql,qk⟩:=HSW.o;go_simp;refine aI.one (i:=22) (by kernel_rfl) (aY (v:=.pointer (some ⟨q,k,none⟩)) (w':=w4) rfl (by kernel_rfl) (by go_simp;try rfl) ?_);refine ⟨.inr (.inr HSW.o),?_⟩;go_simp;refine aI.one (i:=23) (by kernel_rfl) (eX (w':=w4.setCell ⟨q,k,none⟩ (.slice ao4 n4 cap4)) rfl (by kernel_rfl) 25 (.tmp 127) (.tmp 126) rfl _ _ rfl rfl (by go_simp;try rfl) ⟨.inl rfl,?_⟩);refine aI.done (by kernel_rfl) ?_ _;have HS9:=aH (HS4.o.set (n:=k) (L:=orL (t k) L3) ⟨gF.or _ (HSE.o.ok k).1,fun y hy=>by rcases (kX _ _ _).1 hy with h | h;exact (HSE.o.ok k).2 y h;exact HL3.o.2 y h⟩ HI4.o);have HB9:=aH (HB4.o.trans (But.put w4 q k (.slice ao4 n4 cap4)) (fun g _ h=>h));have HX9:=aH (HX4.o.but (But.put w4 q k (.slice ao4 n4 cap4)) HXQ.o);generalize w4.setCell ⟨q,k,none⟩ (.slice ao4 n4 cap4)=w9 at *;clear pl p7 yl y6 kbl kc0 ql qk qf;go_simp;try go_wp2
    go_roundw
    case rel=>exact ⟨i + 1,_,by go_num,by omega,aH (by rw [HRD.o];exact HST.o),HS9,HX9,HB9⟩
    case measure=>simp [intOf];omega
   ·
    have hi1:decide ((i:Int) < (nk:Int))=false:=aF hin;have hi2:decide (i < nk)=false:=aF (by omega);have HE:=aH (show RES=t from by rw [HR.o,List.drop_of_length_le (by have:=HNK.o;omega)];rfl);go_wp2
    first
     | (go_end0;rw [HE.o];exact ⟨rfl,HS.o,HB2.o.trans HB.o (fun g _ h=>h)⟩)
     | (refine bodyPost_ret (results_none rfl _ _ _) rfl ?_;rw [HE.o];exact ⟨rfl,HS.o,HB2.o.trans HB.o (fun g _ h=>h)⟩)
def RxE (gr:Gj) (w:World) (e:Ending) (w':World):Prop:=∃ q,e=.returned (.slice (some ⟨q,0,none⟩) gr.ns.length gr.ns.length)/\(∃ V:Nat->Value,Own w' q 25 ((List.range gr.ns.length).map V)/\∀ k,k < gr.ns.length->aO w' w.heap.size (V k) (bP gr k))/\w.heap.size<=q/\Below w.heap.size w w'
theorem qZ (gr:Gj) (a:Gv) (hg:Good gr) (har:∀ x ∈ gr.ns,Ar x) (w:World) (hG:dG w gr a):Calls Tryz.prog 10 #[grv gr a] w (RxE gr w):=by
 have HGD:=aH hg;have HAR:=aH har;have HB1:=gB w a gr;have HO1:=gO w a gr;have HG1:=aH ((hG.mono (T:=fun b=>b < w.heap.size) (fun _ h _=>h)).below HB1.o);have HNU:=aH (fun W h=>nW gr a hg W h);have HLE:=aH (fun (k:Int) W (h:dG W gr a)=>Oa gr a hg k W h);have HTL:=aH (fun E p u q C lo lc n hn T W hS=>Nz gr a hg har E p u q C lo lc (dE gr) (CP hg har) n hn T W hS);obtain ⟨RES,hRES⟩:∃ z,bP gr=z:=⟨_,rfl⟩;have HR0:=aH (show sI (dE gr) (zF gr (aZ gr)) gr.ns.length (gr.ns.length * gr.ns.length + 1) (fun _=>[])=RES from by rw [<- hRES];rfl);unfold RxE;rw [hRES];unfold BoE at HNU;unfold LeE at HLE;unfold BkE at HTL;unfold grv;unfold grv at HNU HLE;obtain ⟨nn,nh,nms,nw,hnn,hnh,hnms,hnw⟩:=nG gr;have HLN:=aH hnn;have HRW:=aH (show ([.slice a.mo gr.ms.length a.mc,.slice a.no gr.ns.length a.nc,.slice a.ho gr.hs.length a.hc,.slice a.wo gr.ws.length a.wc,.int .i64 gr.st]:List Value)=[.slice a.mo nms a.mc,.slice a.no nn a.nc,.slice a.ho nh a.hc,.slice a.wo nw a.wc,.int .i64 gr.st] from by rw [hnn,hnh,hnms,hnw]);have hn160:(nn:Int)<=160:=by have:=hg.len;omega
 rw [hnn] at HR0;rw [hnn,hnh,hnms,hnw] at HNU HLE HB1 HO1 HG1;rw [hnn,hnh,hnms,hnw];obtain ⟨B,hB⟩:∃ B,w.heap.size=B:=⟨_,rfl⟩;have HW1:=aH (show (w.alloc (.cells #[.slice a.mo nms a.mc,.slice a.no nn a.nc,.slice a.ho nh a.hc,.slice a.wo nw a.wc,.int .i64 gr.st] 27)).heap.size=B + 1 from by rw [<- hB];simp);have HBE:=aH hB;rw [hB] at HO1;have hmk:∀ W:World,(Instr.makeSlice 32 (.int .i64 (nn:Int)) (.int .i64 (nn:Int))).run Tryz.prog W=.ok (.slice (some ⟨W.heap.size,0,none⟩) nn nn) (W.alloc (.cells (Array.replicate nn (Value.slice none 0 0)) 25)):=fun W=>LX nn (by omega) W;have HMK:=aH hmk;clear hg har hG hRES hnn hnh hnms hnw hmk;go_enter Tryz.func10,Tryz.ntmps10;go_upto_region 1 with fail;generalize w.alloc (.cells #[.slice a.mo nms a.mc,.slice a.no nn a.nc,.slice a.ho nh a.hc,.slice a.wo nw a.wc,.int .i64 gr.st] 27)=w1 at *;try rw [hB]
 clear hB;obtain ⟨g0,g1,g2,g3,g4,gl⟩:=oG HO1.o
 go_cut [3] (fun s3 wx=>∃ u q p,s3=.pointer (some ⟨p,0,none⟩)/\aQ (Own wx p 61 [.slice a.mo nms a.mc,.slice a.no nn a.nc,.slice a.ho nh a.hc,.slice a.wo nw a.wc,.int .i64 gr.st,.slice (some ⟨u,0,none⟩) nn nn,.slice none 0 0,.slice (some ⟨q,0,none⟩) nn nn])/\aQ (Own wx u 4 (bZ (aZ gr) nn))/\aQ (Own wx q 25 (List.replicate nn (Value.slice none 0 0)))/\aQ (B + 1<=u/\B + 1<=q/\u ≠ q/\u < p/\q < p)/\aQ (Below w1.heap.size w1 wx))
 case first =>
  refine wp_region_held (S:=fun Wx=>B < Wx.heap.size/\Wx.cell? ⟨B,0,none⟩=some (.slice a.mo nms a.mc)/\Wx.cell? ⟨B,1,none⟩=some (.slice a.no nn a.nc)/\Wx.cell? ⟨B,2,none⟩=some (.slice a.ho nh a.hc)/\Wx.cell? ⟨B,3,none⟩=some (.slice a.wo nw a.wc)/\Wx.cell? ⟨B,4,none⟩=some (.int .i64 gr.st)) (by kernel_rfl) ?_;change wpAnyH _ _ _ _ _ _ _ _ (World.drew _);have HKS:=aH (fun (W:World) (h:Below w1.heap.size w1 W)=>show B < W.heap.size/\W.cell? ⟨B,0,none⟩=some (.slice a.mo nms a.mc)/\W.cell? ⟨B,1,none⟩=some (.slice a.no nn a.nc)/\W.cell? ⟨B,2,none⟩=some (.slice a.ho nh a.hc)/\W.cell? ⟨B,3,none⟩=some (.slice a.wo nw a.wc)/\W.cell? ⟨B,4,none⟩=some (.int .i64 gr.st) from ⟨aL gl h.size,aC g0 h,aC g1 h,aC g2 h,aC g3 h,aC g4 h⟩);have HSS:=aH (HKS.o (World.drew w1) (Below.refl _ _).drew);clear g0 g1 g2 g3 g4 gl;refine tkG 0 ?_ rfl HSS.o (by rfl) ?_ ?_;rotate_left;· rintro W ⟨a0,a1,a2,a3,a4,a5⟩;go_simp;try with_reducible rfl
  go_simp;refine tkG 1 ?_ rfl HSS.o (by rfl) ?_ ?_;rotate_left;· rintro W ⟨a0,a1,a2,a3,a4,a5⟩;go_simp;try with_reducible rfl
  go_simp;refine tkG 3 ?_ rfl HSS.o (by rfl) ?_ ?_;rotate_left;· rintro W ⟨a0,a1,a2,a3,a4,a5⟩;go_simp;try with_reducible rfl
  go_simp;refine tkG 4 ?_ rfl HSS.o (by rfl) ?_ ?_;rotate_left;· rintro W ⟨a0,a1,a2,a3,a4,a5⟩;go_simp;try with_reducible rfl
  go_simp;refine tkG 5 ?_ rfl HSS.o (by rfl) ?_ ?_;rotate_left;· rintro W ⟨a0,a1,a2,a3,a4,a5⟩;go_simp;try with_reducible rfl
  go_simp;have hb0:Below w1.heap.size w1 (World.drew w1):=(Below.refl _ _).drew;refine nM (i:=2) (k:=6) (by kernel_rfl) (bB (f:=15) (vs:=#[.agg #[.slice a.mo nms a.mc,.slice a.no nn a.nc,.slice a.ho nh a.hc,.slice a.wo nw a.wc,.int .i64 gr.st]]) rfl (by kernel_rfl) (by go_simp) ((HNU.o (World.drew w1) (HG1.o.below hb0 |>.mono fun _ _ _=>trivial)).mono ?_)) (aY (v:=.slice (some ⟨(World.drew w1).heap.size,0,none⟩) nn nn) (w':=(World.drew w1).alloc (.cells (Array.replicate nn (Value.slice none 0 0)) 25)) rfl (by kernel_rfl) (by go_simp;rw [HMK.o];rfl) ?_)
  ·
   rintro e v1 ⟨u,he,hu0,hul,hbq⟩;have hb1:=hb0.trans (hbq.mono hb0.size);have hul:w1.heap.size<=u:=hul;refine ⟨_,he,HKS.o v1 hb1,?_⟩;go_simp;refine bE (i:=6) (by kernel_rfl) (aY (v:=.slice (some ⟨v1.heap.size,0,none⟩) nn nn) (w':=v1.alloc (.cells (Array.replicate nn (Value.slice none 0 0)) 25)) rfl (by kernel_rfl) (by go_simp;rw [HMK.o];rfl) ?_);have hbq2:Below v1.heap.size v1 (v1.alloc (.cells (Array.replicate nn (Value.slice none 0 0)) 25)):=bA _;have hb2:=hb1.trans (hbq2.mono hb1.size);refine ⟨HKS.o _ hb2,?_⟩;obtain ⟨q,hq0⟩:∃ q,v1.heap.size=q:=⟨_,rfl⟩;have hq:Own (v1.alloc (.cells (Array.replicate nn (Value.slice none 0 0)) 25)) q 25 (List.replicate nn (Value.slice none 0 0)):=(by rw [<- hq0,<- List.toArray_replicate];exact Own.fresh v1 25 _);have hu:=hu0.under hbq2 hu0.lt;have f1:=hu0.lt;have f3:=hb1.size;rw [hq0] at f1 f3;clear hbq2 hbq hu0;generalize v1.alloc (.cells (Array.replicate nn (Value.slice none 0 0)) 25)=v2 at *;try rw [hq0]
   clear hq0;go_simp;refine tkG 7 ?_ rfl (HKS.o v2 hb2) (by rfl) ?_ ?_;rotate_left;· intro W hW;go_simp;try with_reducible rfl
   go_simp;have hbx:Below v2.heap.size v2 (v2.alloc (.cells #[.slice a.mo nms a.mc,.slice a.no nn a.nc,.slice a.ho nh a.hc,.slice a.wo nw a.wc,.int .i64 gr.st,.slice (some ⟨u,0,none⟩) nn nn,.slice none 0 0,.slice (some ⟨q,0,none⟩) nn nn] 61)):=bA _;have hbz:=hb2.trans (hbx.mono hb2.size);refine bE (i:=8) (by kernel_rfl) (aY (v:=.pointer (some ⟨v2.heap.size,0,none⟩)) (w':=v2.alloc (.cells #[.slice a.mo nms a.mc,.slice a.no nn a.nc,.slice a.ho nh a.hc,.slice a.wo nw a.wc,.int .i64 gr.st,.slice (some ⟨u,0,none⟩) nn nn,.slice none 0 0,.slice (some ⟨q,0,none⟩) nn nn] 61)) rfl (by kernel_rfl) (by go_simp;try rfl) ?_);refine ⟨HKS.o _ hbz,?_⟩;go_simp;refine tkG 9 ?_ rfl (HKS.o _ hbz) (by rfl) ?_ ?_;rotate_left;· intro W hW;go_simp;try with_reducible rfl
   go_simp;refine wpAnyH_done (by kernel_rfl) ?_ _;go_simp;try go_wp2
   go_meet
   have hw1:=HW1.o;exact ⟨u,q,v2.heap.size,rfl,aH (Own.fresh v2 61 [.slice a.mo nms a.mc,.slice a.no nn a.nc,.slice a.ho nh a.hc,.slice a.wo nw a.wc,.int .i64 gr.st,.slice (some ⟨u,0,none⟩) nn nn,.slice none 0 0,.slice (some ⟨q,0,none⟩) nn nn]),aH (hu.under hbx hu.lt),aH (hq.under hbx hq.lt),aH ⟨by omega,by omega,by omega,hu.lt,hq.lt⟩,aH hbz⟩
  ·
   have hbq1:Below (World.drew w1).heap.size (World.drew w1) ((World.drew w1).alloc (.cells (Array.replicate nn (Value.slice none 0 0)) 25)):=bA _;have hb1:=hb0.trans (hbq1.mono hb0.size);refine ⟨HKS.o _ hb1,?_⟩;obtain ⟨q,hq0⟩:∃ q,(World.drew w1).heap.size=q:=⟨_,rfl⟩;have hq1:Own ((World.drew w1).alloc (.cells (Array.replicate nn (Value.slice none 0 0)) 25)) q 25 (List.replicate nn (Value.slice none 0 0)):=(by rw [<- hq0,<- List.toArray_replicate];exact Own.fresh (World.drew w1) 25 _);have f3:w1.heap.size<=q:=Nat.le_of_eq hq0;have f4:q < ((World.drew w1).alloc (.cells (Array.replicate nn (Value.slice none 0 0)) 25)).heap.size:=hq1.lt;clear hbq1;generalize (World.drew w1).alloc (.cells (Array.replicate nn (Value.slice none 0 0)) 25)=v1 at *;try rw [hq0]
   clear hq0;go_simp;refine bE (i:=2) (by kernel_rfl) (bB (f:=15) (vs:=#[.agg #[.slice a.mo nms a.mc,.slice a.no nn a.nc,.slice a.ho nh a.hc,.slice a.wo nw a.wc,.int .i64 gr.st]]) rfl (by kernel_rfl) (by go_simp) ((HNU.o v1 (HG1.o.below hb1 |>.mono fun _ _ _=>trivial)).mono ?_));rintro e v2 ⟨u,he,hu,hul,hbq⟩;have hb2:=hb1.trans (hbq.mono hb1.size);have hq:=hq1.under hbq hq1.lt;have f5:=hb1.size;refine ⟨_,he,HKS.o v2 hb2,?_⟩;clear hbq hq1;go_simp;refine tkG 7 ?_ rfl (HKS.o v2 hb2) (by rfl) ?_ ?_;rotate_left;· intro W hW;go_simp;try with_reducible rfl
   go_simp;have hbx:Below v2.heap.size v2 (v2.alloc (.cells #[.slice a.mo nms a.mc,.slice a.no nn a.nc,.slice a.ho nh a.hc,.slice a.wo nw a.wc,.int .i64 gr.st,.slice (some ⟨u,0,none⟩) nn nn,.slice none 0 0,.slice (some ⟨q,0,none⟩) nn nn] 61)):=bA _;have hbz:=hb2.trans (hbx.mono hb2.size);refine bE (i:=8) (by kernel_rfl) (aY (v:=.pointer (some ⟨v2.heap.size,0,none⟩)) (w':=v2.alloc (.cells #[.slice a.mo nms a.mc,.slice a.no nn a.nc,.slice a.ho nh a.hc,.slice a.wo nw a.wc,.int .i64 gr.st,.slice (some ⟨u,0,none⟩) nn nn,.slice none 0 0,.slice (some ⟨q,0,none⟩) nn nn] 61)) rfl (by kernel_rfl) (by go_simp;try rfl) ?_);refine ⟨HKS.o _ hbz,?_⟩;go_simp;refine tkG 9 ?_ rfl (HKS.o _ hbz) (by rfl) ?_ ?_;rotate_left;· intro W hW;go_simp;try with_reducible rfl
   go_simp;refine wpAnyH_done (by kernel_rfl) ?_ _;go_simp;try go_wp2
   go_meet
   have hw1:=HW1.o;exact ⟨u,q,v2.heap.size,rfl,aH (Own.fresh v2 61 [.slice a.mo nms a.mc,.slice a.no nn a.nc,.slice a.ho nh a.hc,.slice a.wo nw a.wc,.int .i64 gr.st,.slice (some ⟨u,0,none⟩) nn nn,.slice none 0 0,.slice (some ⟨q,0,none⟩) nn nn]),aH (hu.under hbx hu.lt),aH (hq.under hbx hq.lt),aH ⟨by omega,by omega,by omega,hu.lt,hq.lt⟩,aH hbz⟩
 case rest =>
  obtain ⟨u,q,p,rfl,HP,HU,HQ,HLY,HB⟩:=hcut;clear g0 g1 g2 g3 g4 gl;have HB2:=aH (HB1.o.trans (HB.o.mono HB1.o.size));have HGC:=aH (HG1.o.below HB.o);have HOC:=aH (HO1.o.under HB.o HO1.o.lt);obtain ⟨C,hC⟩:∃ C,wc.heap.size=C:=⟨_,rfl⟩;have HCE:=aH hC;have HPC:=aH (show p < C from by rw [<- hC];exact HP.o.lt);have HLD0:=aH (LdW.nil wc C (dE gr));have HBB:=aH (But.refl (fun g=>g=p) wc);have HBL:=aH (show B < B + 1/\B < C from by have:=HOC.o.lt;omega);clear hC;have g1:wc.cell? ⟨B,1,none⟩=some (.slice a.no nn a.nc):=HOC.o.cell 1;have gl:=HOC.o.lt;go_wp2_with fail;clear g1 gl
  go_loopw [4] (fun v18 wr=>∃ (k:Nat) (vl:Value),v18=.int .i64 (k:Int)/\(k:Int)<=nn/\aQ (Own wr p 61 [.slice a.mo nms a.mc,.slice a.no nn a.nc,.slice a.ho nh a.hc,.slice a.wo nw a.wc,.int .i64 gr.st,.slice (some ⟨u,0,none⟩) nn nn,vl,.slice (some ⟨q,0,none⟩) nn nn])/\aQ (LdW wr C (dE gr) vl k)/\aQ (But (fun g=>g=p) wc wr)) (fun v18 _=>nn - (intOf v18).toNat)
  case atStart=>exact ⟨0,.slice none 0 0,rfl,by omega,HP,HLD0,HBB⟩
  case round =>
   obtain ⟨k,vl,rfl,hk,HPk,HLk,HBk⟩:=hrel;have hOW:=HOC.o.but HBk.o (by have:=HLY.o;have:=HBL.o;show ¬ B=p;omega);have g1:wr.cell? ⟨B,1,none⟩=some (.slice a.no nn a.nc):=hOW.cell 1;have gl:=hOW.lt;clear hOW;by_cases hkn:(k:Int) < nn
   ·
    have hk1:decide ((k:Int) < (nn:Int))=true:=aT hkn;have hk2:decide (k < nn)=true:=aT (by omega);have hw1:IntKind.i64.wrap ((k:Int) + 1)=(k:Int) + 1:=wI;obtain ⟨V,S,hW,hS2,hS3⟩:=HLk.o;have HWk:=aH hW;have HS2:=aH hS2;have HS3:=aH hS3;have hOB:=HOC.o.but HBk.o (by have:=HLY.o;have:=HBL.o;show ¬ B=p;omega);have HKS:=aH (show p < wr.heap.size/\wr.cell? ⟨p,6,none⟩=some vl/\B < wr.heap.size/\wr.cell? ⟨B,0,none⟩=some (.slice a.mo nms a.mc)/\wr.cell? ⟨B,1,none⟩=some (.slice a.no nn a.nc)/\wr.cell? ⟨B,2,none⟩=some (.slice a.ho nh a.hc)/\wr.cell? ⟨B,3,none⟩=some (.slice a.wo nw a.wc)/\wr.cell? ⟨B,4,none⟩=some (.int .i64 gr.st) from ⟨HPk.o.lt,HPk.o.cell 6,hOB.lt,hOB.cell 0,hOB.cell 1,hOB.cell 2,hOB.cell 3,hOB.cell 4⟩);have HGk:=aH ((HGC.o.but HBk.o (fun j _ hj e=>by have:=HBE.o;have:=HLY.o;have e:j=p:=e;omega)).mono (T:=fun _=>True) fun _ _ _=>trivial);have HCL:=aH (HLE.o (k:Int) (World.drew wr) (HGk.o.below (Below.refl wr.heap.size wr).drew));obtain ⟨i0,ii,hz0,hz1,hz2⟩:=info_parts Es;have HCW:=aH (show C<=wr.heap.size from by have:=HBk.o.size;have:=HCE.o;omega);clear hW hS2 hS3 hOB;go_upto_region 5 with fail;refine bX (fun Wx=>p < Wx.heap.size/\Wx.cell? ⟨p,6,none⟩=some vl/\B < Wx.heap.size/\Wx.cell? ⟨B,0,none⟩=some (.slice a.mo nms a.mc)/\Wx.cell? ⟨B,1,none⟩=some (.slice a.no nn a.nc)/\Wx.cell? ⟨B,2,none⟩=some (.slice a.ho nh a.hc)/\Wx.cell? ⟨B,3,none⟩=some (.slice a.wo nw a.wc)/\Wx.cell? ⟨B,4,none⟩=some (.int .i64 gr.st)) 12 (by kernel_rfl) ?_;have HSS:=aH (show p < (World.drew wr).heap.size/\(World.drew wr).cell? ⟨p,6,none⟩=some vl/\B < (World.drew wr).heap.size/\(World.drew wr).cell? ⟨B,0,none⟩=some (.slice a.mo nms a.mc)/\(World.drew wr).cell? ⟨B,1,none⟩=some (.slice a.no nn a.nc)/\(World.drew wr).cell? ⟨B,2,none⟩=some (.slice a.ho nh a.hc)/\(World.drew wr).cell? ⟨B,3,none⟩=some (.slice a.wo nw a.wc)/\(World.drew wr).cell? ⟨B,4,none⟩=some (.int .i64 gr.st) from HKS.o);refine tC 0 rfl HSS.o ?_;go_simp;refine tC 1 rfl HSS.o ?_;go_simp;refine tC 2 rfl HSS.o ?_;go_simp;refine tC 3 rfl HSS.o ?_;go_simp;refine tD 4 [9,12] rfl HSS.o ?_;go_simp;refine tD 5 [7,8,9,12] rfl HSS.o ?_;go_simp;refine tC 6 rfl HSS.o ?_;go_simp;refine aI.one (i:=7) (by kernel_rfl) (bB (f:=24) (vs:=#[.agg #[.slice a.mo nms a.mc,.slice a.no nn a.nc,.slice a.ho nh a.hc,.slice a.wo nw a.wc,.int .i64 gr.st],.int .i64 (k:Int)]) rfl (by kernel_rfl) (by go_simp) (HCL.o.mono ?_));rintro e wA ⟨vA,he,hI,hbA⟩;have hbA:Below wr.heap.size wr wA:=((Below.refl wr.heap.size wr).drew).trans hbA;have hI:aO wA wr.heap.size vA (dE gr k):=(by rw [<- vG (show k < gr.ns.length from by have:=HLN.o;omega)];exact hI);obtain ⟨vo,vn,vc,hvA⟩:∃ ao n c,vA=.slice ao n c:=(by obtain ⟨x1,x2,x3,-⟩:=hI;exact ⟨x1,_,x2,x3⟩);have hoff:Iq S vA:=fun g off n c e hn hs=>(by have:=(hI.blk e hn).1;have:=(HS2.o g hs).2;omega);have K:=HKS.o;refine ⟨_,he,.inr (.inr ⟨aL K.1 hbA.size,aC K.2.1 hbA,aL K.2.2.1 hbA.size,aC K.2.2.2.1 hbA,aC K.2.2.2.2.1 hbA,aC K.2.2.2.2.2.1 hbA,aC K.2.2.2.2.2.2.1 hbA,aC K.2.2.2.2.2.2.2 hbA⟩),?_⟩;go_simp;have hbx:Below wA.heap.size wA (wA.alloc (.cells #[vA] 25)):=bA _;have hbB:=hbA.trans (hbx.mono hbA.size);have hOG:=Own.fresh wA 25 [vA];have hI2:=hI.below hbx;have HFR:=aH (show wr.heap.size<=wA.heap.size from hbA.size);refine aI.one (i:=8) (by kernel_rfl) (aY (v:=.slice (some ⟨wA.heap.size,0,none⟩) 1 1) (w':=wA.alloc (.cells #[vA] 25)) rfl (by kernel_rfl) (by go_simp;try rfl) ?_);refine ⟨.inr (.inr ⟨aL K.1 hbB.size,aC K.2.1 hbB,aL K.2.2.1 hbB.size,aC K.2.2.2.1 hbB,aC K.2.2.2.2.1 hbB,aC K.2.2.2.2.2.1 hbB,aC K.2.2.2.2.2.2.1 hbB,aC K.2.2.2.2.2.2.2 hbB⟩),?_⟩;generalize wA.alloc (.cells #[vA] 25)=wB at *;generalize wA.heap.size=G at *;go_simp;refine aI.one (i:=9) (by kernel_rfl) (Bh rfl (by kernel_rfl) _ _ 32 32 rfl S 25 i0 _ 1 24 Tryz.underlying32 ii hz0 hz1 hz2 rfl (by decide) vl k ((List.range k).map V) rfl (HWk.o.below hbB) (.slice (some ⟨G,0,none⟩) 1 1) 1 [vA] rfl (Src.oneV hOG (by rw [hvA];rfl)) (by unfold maxLen;omega) (by omega) ?_);intro v2 w2 hw2 hb2;have hpS:∀ {g:Nat},g < C->¬ S g:=fun h hs=>(by have:=(HS2.o _ hs).1;omega);have hPp:Own w2 p 61 [.slice a.mo nms a.mc,.slice a.no nn a.nc,.slice a.ho nh a.hc,.slice a.wo nw a.wc,.int .i64 gr.st,.slice (some ⟨u,0,none⟩) nn nn,vl,.slice (some ⟨q,0,none⟩) nn nn]:=(HPk.o.under hbB HPk.o.lt).but hb2 (hpS HPC.o);have hLm:LdW w2 C (dE gr) v2 (k + 1):=LdW.more (w:=wB) (V:=V) (S:=S) (Nat.le_trans HCW.o hbB.size) (fun g hg=>⟨(HS2.o g hg).1,aL (HS2.o g hg).2 hbB.size⟩) (fun j hj=>⟨(HS3.o j hj).1.below hbB,(HS3.o j hj).2⟩) (hI2.mono HCW.o) hoff hw2 hb2;have hBt:But (fun g=>g=p) wc w2:=(HBk.o.then_below hbB).trans hb2 (fun g hg hs=>by have:=(HS2.o g hs).1;have:=HCE.o;omega);have HPw:=aH hPp;have HLw:=aH hLm;have HBw:=aH hBt;obtain ⟨ao2,cap2,hv2,-⟩:=hw2.form;subst hv2;have hcl:∀ {ad:Addr} {v:Value},ad.block < C->wr.cell? ad=some v->w2.cell? ad=some v:=fun h hc=>hb2.cell (hpS h) (aC hc hbB);refine ⟨.inr (.inr ⟨HPw.o.lt,HPw.o.cell 6,aL (aL K.2.2.1 hbB.size) hb2.size,hcl HBL.o.2 K.2.2.2.1,hcl HBL.o.2 K.2.2.2.2.1,hcl HBL.o.2 K.2.2.2.2.2.1,hcl HBL.o.2 K.2.2.2.2.2.2.1,hcl HBL.o.2 K.2.2.2.2.2.2.2⟩),?_⟩;have pf:w2.frozen? ⟨p,6,none⟩=false:=HPw.o.thaw 6;have p6:w2.cell? ⟨p,6,none⟩=some vl:=HPw.o.cell 6;have pl:=HPw.o.lt;have HSZ:=aH (show p < w2.heap.size/\w2.cell? ⟨p,6,none⟩=some vl/\B < w2.heap.size/\w2.cell? ⟨B,0,none⟩=some (.slice a.mo nms a.mc)/\w2.cell? ⟨B,1,none⟩=some (.slice a.no nn a.nc)/\w2.cell? ⟨B,2,none⟩=some (.slice a.ho nh a.hc)/\w2.cell? ⟨B,3,none⟩=some (.slice a.wo nw a.wc)/\w2.cell? ⟨B,4,none⟩=some (.int .i64 gr.st) from ⟨pl,p6,aL (aL K.2.2.1 hbB.size) hb2.size,hcl HBL.o.2 K.2.2.2.1,hcl HBL.o.2 K.2.2.2.2.1,hcl HBL.o.2 K.2.2.2.2.2.1,hcl HBL.o.2 K.2.2.2.2.2.2.1,hcl HBL.o.2 K.2.2.2.2.2.2.2⟩);clear K hPp hLm hBt hb2 hw2 hcl hpS hbB hOG hI2 hbx hoff hI hbA HSS ii hz0 hz1 hz2;go_simp;refine aI.one (i:=10) (by kernel_rfl) (aY (v:=.pointer (some ⟨p,0,none⟩)) (w':=w2) rfl (by kernel_rfl) (by go_simp;try rfl) ?_);refine ⟨.inr (.inr HSZ.o),?_⟩;go_simp;refine aI.one (i:=11) (by kernel_rfl) (aY (v:=.pointer (some ⟨p,6,none⟩)) (w':=w2) rfl (by kernel_rfl) (by go_simp;try rfl) ?_);refine ⟨.inr (.inr HSZ.o),?_⟩;go_simp;refine aI.one (i:=12) (by kernel_rfl) (eX (w':=w2.setCell ⟨p,6,none⟩ (.slice ao2 (k + 1) cap2)) rfl (by kernel_rfl) 32 (.tmp 38) (.tmp 36) rfl _ _ rfl rfl (by go_simp;try rfl) ⟨.inl rfl,?_⟩);refine aI.done (by kernel_rfl) ?_ _;have HP9:=aH (HPw.o.put 6 (.slice ao2 (k + 1) cap2));have HL9:=aH (HLw.o.but (But.put w2 p 6 (.slice ao2 (k + 1) cap2)) HPC.o);have HB9:=aH (HBw.o.trans (But.put w2 p 6 (.slice ao2 (k + 1) cap2)) (fun g _ h=>h));generalize w2.setCell ⟨p,6,none⟩ (.slice ao2 (k + 1) cap2)=w9 at *;clear p6 pf pl;go_simp;try go_wp2
    go_roundw
    case rel=>exact ⟨k + 1,_,by go_num,by omega,HP9,HL9,HB9⟩
    case measure=>simp [intOf];omega
   ·
    have hk1:decide ((k:Int) < (nn:Int))=false:=aF hkn;have hk2:decide (k < nn)=false:=aF (by omega);obtain rfl:nn=k:=(by omega);obtain ⟨lo,lc,hvl⟩:∃ lo lc,vl=.slice lo nn lc:=(by obtain ⟨V,S,h1,-⟩:=HLk.o;obtain ⟨ao,cap,e,-⟩:=h1.form;exact ⟨ao,cap,e⟩);subst hvl
    have HS5:=aH (show Bk wr B p u q C lo lc gr a (dE gr) (fun _=>[]) from by
     have hly:=HLY.o;have hpc:=HPC.o;have hce:=HCE.o;have hbc:=HBk.o;refine ⟨by omega,by omega,by omega,by omega,by omega,hpc,by omega,?_,?_,⟨fun _=>.slice none 0 0,?_,fun j _=>aO.nil _ _⟩,?_,?_,fun j=>⟨trivial,fun x hx=>(by cases hx)⟩,by have:=hbc.size;omega⟩
     · have h:=HPk.o;rw [HLN.o];have e:([.slice a.mo gr.ms.length a.mc,.slice a.no gr.ns.length a.nc,.slice a.ho gr.hs.length a.hc,.slice a.wo gr.ws.length a.wc,.int .i64 gr.st]:List Value)=[.slice a.mo nms a.mc,.slice a.no nn a.nc,.slice a.ho nh a.hc,.slice a.wo nw a.wc,.int .i64 gr.st]:=HRW.o;injection e with e0 e;injection e with e1 e;injection e with e2 e;injection e with e3 e;rw [e0,e2,e3];exact h
     · rw [HLN.o];exact HU.o.but hbc (by show ¬ u=p;omega)
     · rw [HLN.o,List.map_const',List.length_range];exact HQ.o.but hbc (by show ¬ q=p;omega)
     · rw [HLN.o];exact HLk.o.at_
     ·
      have h:=HGC.o.but hbc (fun j _ hj e=>by have:=HBE.o;have e:j=p:=e;omega);rw [HBE.o] at h
      exact h)
    have HO5:=aH (HOC.o.but HBk.o (by have:=HLY.o;have:=HBL.o;show ¬ B=p;omega));have HZ5:=aH (HB2.o.trans (HBk.o.below (B:=w1.heap.size) HB.o.size (fun j e=>by have:=HLY.o;have:=HW1.o;have e:j=p:=e;omega) |>.mono HB1.o.size));obtain ⟨A,hA⟩:∃ A,zF gr (aZ gr)=A:=⟨_,rfl⟩;rw [hA] at HR0;have HI0:=aH (B0Y (Rn gr) (dE gr) A nn);have HKA:=aH (fun (k:Nat) (t:Nx × Bool) (hk:k < gr.ns.length) (h:∀ j,gF (t.1 j))=>show GY gr (dE gr) k t.1=(eQ (dE gr) (A k) t).1 from by rw [<- hA];exact A3S hk h)
    have HPL:=aH (fun (s:Nx × Bool) (h:wO (Rn gr) (dE gr) A nn s.1)=>show wO (Rn gr) (dE gr) A nn (jT (dE gr) A nn 0 s).1/\(s.2=false->(jT (dE gr) A nn 0 s).2=true->fU nn (jT (dE gr) A nn 0 s).1 nn < fU nn s.1 nn) from
     ⟨Nv (fun j=>(Mr HGD.o HAR.o j).2) nn 0 s (by omega) h,(Ht (fun x h=>by rw [<- HLN.o];exact h.rng) (fun j=>(Mr HGD.o HAR.o j).2) (fun n hn a ha=>by rw [<- hA] at ha;rw [<- HLN.o];exact UH HGD.o _ n (by rw [HLN.o];exact hn) a ha) nn 0 s (by omega) h).2⟩)
    have HCN:=aH (fun (T:Nx) (h:∀ k,(T k).length<=nn) (j:Nat) (hj:j<=nn)=>show Ec T j<=160 * 160 from by
     have h1:=B4R h j;have h2:j * nn<=160 * 160:=Nat.mul_le_mul (by omega) (by omega)
     omega)
    clear hA;go_wp2_with fail;clear HPk HLk HBk g1 gl
    go_loopg [5] (nn * nn + 1) (fun f v5 wr=>∃ (T:Nx) (z:Bool),v5=.bool z/\aQ (RES=if z=true then sI (dE gr) A nn f T else T)/\aQ (z=true->fU nn T nn < f)/\aQ (wO (Rn gr) (dE gr) A nn T)/\aQ (Bk wr B p u q C lo lc gr a (dE gr) T)/\aQ (Own wr B 27 [.slice a.mo nms a.mc,.slice a.no nn a.nc,.slice a.ho nh a.hc,.slice a.wo nw a.wc,.int .i64 gr.st])/\aQ (Below w.heap.size w wr))
    case atStart=>exact ⟨fun _=>[],true,rfl,aH (by rw [if_pos rfl];exact HR0.o.symm),aH (fun _=>by have:=Uh nn (fun _=>[]) nn;omega),HI0,HS5,HO5,HZ5⟩
    case round =>
     obtain ⟨T,z,rfl,HS,HLK,HI,HSh,HO,HZ⟩:=hrel;obtain ⟨wo,hwo⟩:∃ z,z=wr:=⟨_,rfl⟩;subst hwo;clear HS5 HO5 HZ5;have p7:wo.cell? ⟨p,7,none⟩=some (.slice (some ⟨q,0,none⟩) nn nn):=(by rw [<- HLN.o];exact HSh.o.own.cell 7);have pl:=HSh.o.own.lt
     cases z with
     | false =>
      have HE:=aH (show RES=T from by rw [HS.o,if_neg (by decide)]);go_wp2;go_ret;obtain ⟨V,hV1,hV2⟩:=HSh.o.nx;refine ⟨q,rfl,⟨V,by rw [<- HLN.o];exact hV1,fun k hk=>by rw [HE.o];exact (hV2 k (by rw [HLN.o];exact hk)).mono (by have:=HBE.o;have:=HBL.o;omega)⟩,by have:=HLY.o;have:=HBE.o;omega,HZ.o⟩
     | true =>
      obtain ⟨f,rfl⟩:∃ f,gk=f + 1:=⟨gk - 1,by have:=HLK.o rfl;omega⟩;have HS1:=aH (show RES=sI (dE gr) A nn (f + 1) T from by rw [HS.o,if_pos rfl]);have HL1:=aH (HLK.o rfl);have HTL0:=aH (show ∀ k,(T k).length<=nn from fun k=>by have:=HSh.o.len k;rw [HLN.o] at this;exact this);obtain ⟨V,hV1,hV2⟩:=HSh.o.nx;have HV1:=aH hV1;have HV2:=aH hV2;clear hV1 hV2 HS HLK;go_wp2_with fail
      go_loopw [6,7] (fun v6 v7 wx=>∃ j:Nat,v6=.int .i64 (Ec T j:Int)/\v7=.int .i64 (j:Int)/\(j:Int)<=nn/\wo=wx) (fun _ v7 _=>nn - (intOf v7).toNat)
      case atStart=>exact ⟨0,rfl,rfl,by omega,rfl⟩
      case round =>
       obtain ⟨j,rfl,rfl,hj,rfl⟩:=hrel;by_cases hjn:(j:Int) < nn
       ·
        have hj1:decide ((j:Int) < (nn:Int))=true:=aT hjn;have hj2:decide (j < nn)=true:=aT (by omega);have hj3:j < nn:=(by omega);obtain ⟨ao,cap,hv,-⟩:=HV2.o j (by rw [HLN.o];exact hj3);have q0:wo.cell? ⟨q,j,none⟩=some (.slice ao (T j).length cap):=(by rw [HV1.o.cell j,List.getElem?_map,List.getElem?_range (by rw [HLN.o];exact hj3)];exact congrArg some hv);have ql:=HV1.o.lt;have hs:((Ec T j:Int) + ((T j).length:Int))=(Ec T (j + 1):Int):=(by show _=((Ec T j + (T j).length:Nat):Int);omega);have hw1:IntKind.i64.wrap ((Ec T j:Int) + ((T j).length:Int))=(Ec T (j + 1):Int):=(by rw [hs,IntKind.wrap_i64];have:=HCN.o T HTL0.o (j + 1) (by omega);omega);have hw2:IntKind.i64.wrap ((j:Int) + 1)=(j:Int) + 1:=wI;clear hv hs;go_wp2
        go_roundw
        case rel=>exact ⟨j + 1,by first | rfl | exact congrArg _ hw1 | (rw [hw1]),by go_num,by omega,trivial⟩
        case measure=>simp [intOf];omega
       ·
        have hj1:decide ((j:Int) < (nn:Int))=false:=aF hjn;have hj2:decide (j < nn)=false:=aF (by omega);obtain rfl:j=nn:=(by omega);obtain ⟨c0,hc0⟩:∃ c,Ec T j=c:=⟨_,rfl⟩;have HC0:=aH hc0;try rw [hc0]
        clear hc0;go_wp2_with fail;clear p7 pl
        go_loopw [8] (fun v8 wx=>∃ (k:Nat) (t:Nx × Bool),v8=.int .i64 (k:Int)/\(k:Int)<=j/\aQ (jT (dE gr) A j 0 (T,false)=jT (dE gr) A (j - k) k t)/\aQ (Bk wx B p u q C lo lc gr a (dE gr) t.1)/\aQ (Own wx B 27 [.slice a.mo nms a.mc,.slice a.no j a.nc,.slice a.ho nh a.hc,.slice a.wo nw a.wc,.int .i64 gr.st])/\aQ (Below w.heap.size w wx)) (fun v8 _=>j - (intOf v8).toNat)
        case atStart=>exact ⟨0,(T,false),rfl,by omega,aH rfl,HSh,HO,HZ⟩
        case round =>
         obtain ⟨k,t,rfl,hk,HP,HSx,HOx,HZx⟩:=hrel;have g1:wr.cell? ⟨B,1,none⟩=some (.slice a.no j a.nc):=HOx.o.cell 1;have gl:=HOx.o.lt;by_cases hkn:(k:Int) < j
         ·
          have hk1:decide ((k:Int) < (j:Int))=true:=aT hkn;have hk2:decide (k < j)=true:=aT (by omega);have hw1:IntKind.i64.wrap ((k:Int) + 1)=(k:Int) + 1:=wI;have hkg:k < gr.ns.length:=by rw [HLN.o];omega
          have HPN:=aH (show jT (dE gr) A j 0 (T,false)=jT (dE gr) A (j - (k + 1)) (k + 1) (eQ (dE gr) (A k) t) from by
           rw [HP.o,show j - k=(j - (k + 1)) + 1 by omega]
           rfl)
          have HC:=aH (HTL.o B p u q C lo lc k hkg t.1 wr HSx.o);rw [HKA.o k t hkg (fun i=>(HSx.o.ok i).1)] at HC;clear hkg;go_wp2_with fail;refine HC.o.mono ?_;rintro e w7 ⟨he,hS7,hB7⟩;subst he;have HS7:=aH hS7;have HO7:=aH (HOx.o.but hB7 (by have:=HLY.o;have:=HBL.o;intro e;have e:B=q:=e;omega));have HZ7:=aH (HZx.o.trans (hB7.below (B:=w.heap.size) HZx.o.size (fun j e=>by have:=HLY.o;have:=HBE.o;have e:j=q:=e;omega)));clear hS7 hB7 g1 gl HC;go_wp2
          go_roundw
          case rel=>exact ⟨k + 1,_,by go_num,by omega,HPN,HS7,HO7,HZ7⟩
          case measure=>simp [intOf];omega
         ·
          have hk1:decide ((k:Int) < (j:Int))=false:=aF hkn;have hk2:decide (k < j)=false:=aF (by omega);obtain ⟨T1,z1⟩:=t;have HP2:=aH (show jT (dE gr) A j 0 (T,false)=(T1,z1) from HP.o.trans (by rw [show j - k=0 by omega];rfl))
          have HSN:=aH (show RES=if z1=true then sI (dE gr) A j f T1 else T1 from by
           rw [HS1.o]
           show (match jT (dE gr) A j 0 (T,false) with
            | (T',true)=>sI (dE gr) A j f T'
            | (T',false)=>T')=_
           rw [HP2.o]
           cases z1 <;> rfl)
          have hpl:=HPL.o (T,false) HI.o;rw [HP2.o] at hpl;have HIN:=aH (show wO (Rn gr) (dE gr) A j T1 from hpl.1)
          have HLN2:=aH (show z1=true->fU j T1 j < f from fun h=>by
           have h1:fU j T1 j < fU j T j:=hpl.2 rfl h;have h2:=HL1.o
           omega)
          have HTL1:=aH (show ∀ k,(T1 k).length<=j from fun k=>by have:=HSx.o.len k;rw [HLN.o] at this;exact this)
          have HDC:=aH (show decide (c0 < Ec T1 j)=z1 from by
           have e0:=Ta HTL0.o j;have e1:=Ta HTL1.o j;rw [HC0.o] at e0
           cases z1 with
           | true =>
            have h1:fU j T1 j < fU j T j:=hpl.2 rfl rfl;exact aT (by omega)
           | false =>
            have h3:=(Qo (dE gr) A j 0 (T,false) (by rw [HP2.o])).1;rw [HP2.o] at h3;have h4:T1=T:=congrArg Prod.fst h3;rw [h4,HC0.o]
            exact aF (by omega))
          obtain ⟨wp,hwp⟩:∃ z,z=wr:=⟨_,rfl⟩;subst hwp;have p7:wp.cell? ⟨p,7,none⟩=some (.slice (some ⟨q,0,none⟩) j j):=(by have h:=HSx.o.own.cell 7;rw [HLN.o] at h;exact h);have pl:=HSx.o.own.lt;obtain ⟨U,hU1,hU2⟩:=HSx.o.nx;have HU1:=aH hU1;have HU2:=aH hU2;clear hpl hU1 hU2 HP HS1 HL1 HV1 HV2;go_wp2_with fail;clear g1 gl
          go_loopw [9,10] (fun v9 v10 wx=>∃ i:Nat,v9=.int .i64 (Ec T1 i:Int)/\v10=.int .i64 (i:Int)/\(i:Int)<=j/\wp=wx) (fun _ v10 _=>j - (intOf v10).toNat)
          case atStart=>exact ⟨0,rfl,rfl,by omega,rfl⟩
          case round =>
           obtain ⟨i,rfl,rfl,hi,rfl⟩:=hrel;by_cases hin:(i:Int) < j
           ·
            have hi1:decide ((i:Int) < (j:Int))=true:=aT hin;have hi2:decide (i < j)=true:=aT (by omega);have hi3:i < j:=(by omega);obtain ⟨ao,cap,hv,-⟩:=HU2.o i (by rw [HLN.o];exact hi3);have q0:wp.cell? ⟨q,i,none⟩=some (.slice ao (T1 i).length cap):=(by rw [HU1.o.cell i,List.getElem?_map,List.getElem?_range (by rw [HLN.o];exact hi3)];exact congrArg some hv);have ql:=HU1.o.lt;have hs:((Ec T1 i:Int) + ((T1 i).length:Int))=(Ec T1 (i + 1):Int):=(by show _=((Ec T1 i + (T1 i).length:Nat):Int);omega);have hw1:IntKind.i64.wrap ((Ec T1 i:Int) + ((T1 i).length:Int))=(Ec T1 (i + 1):Int):=(by rw [hs,IntKind.wrap_i64];have:=HCN.o T1 HTL1.o (i + 1) (by omega);omega);have hw2:IntKind.i64.wrap ((i:Int) + 1)=(i:Int) + 1:=wI;clear hv hs;go_wp2
            go_roundw
            case rel=>exact ⟨i + 1,by first | rfl | exact congrArg _ hw1 | (rw [hw1]),by go_num,by omega,trivial⟩
            case measure=>simp [intOf];omega
           ·
            have hi1:decide ((i:Int) < (j:Int))=false:=aF hin;have hi2:decide (i < j)=false:=aF (by omega);obtain rfl:i=j:=(by omega);have hdc:=HDC.o;go_wp2
            go_roundg f
            case measure=>omega
            case rel=>exact ⟨T1,z1,by first | rfl | exact congrArg Value.bool hdc | (rw [hdc]),HSN,HLN2,HIN,HSx,HOx,HZx⟩
end Go.Proofs.YthddifjhoniacaaGreat
