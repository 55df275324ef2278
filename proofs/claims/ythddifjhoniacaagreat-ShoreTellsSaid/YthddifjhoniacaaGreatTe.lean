import Derived.Test.YthddifjhoniacaaGreatGc
import Derived.Test.YthddifjhoniacaaGreatJz
import Derived.Test.YthddifjhoniacaaGreatMd
import Derived.Test.YthddifjhoniacaaGreatHv
import Derived.Test.YthddifjhoniacaaGreatHq
import Derived.Deep.CutBlock
import Derived.BigQuiet
import Derived.Test.YthddifjhoniacaaGreatAw14
import Derived.Test.YthddifjhoniacaaGreatShG
import Derived.Test.YthddifjhoniacaaGreatNxD
import Derived.Test.YthddifjhoniacaaGreatMe
import Derived.Test.YthddifjhoniacaaGreatIk
import Derived.Deep.RegionWith
namespace Go.Proofs.YthddifjhoniacaaGreat
set_option linter.unusedVariables false
set_option maxHeartbeats 9600000
set_option maxRecDepth 1000000
open Go.RowKit Go.Sort
def totL:List Md->Nat
 | []=>0
 | m :: r=>m.ru.length + totL r
theorem fst_lt:∀ (ML:List Md) (s m:Nat) (md:Md),ML[m]?=some md->(fstL ML s).getD m 0 + md.ru.length<=s + totL ML
 | [],s,m,md,h=>by simp at h
 | x :: r,s,0,md,h=>by
  have h:x=md:=by simpa using h
  subst h;show s + x.ru.length<=s + (x.ru.length + totL r);omega
 | x :: r,s,m + 1,md,h=>by have:=fst_lt r (s + x.ru.length) m md (by simpa using h);show (fstL r (s + x.ru.length)).getD m 0 + md.ru.length<=s + (x.ru.length + totL r);omega
theorem toO_lt {ML:List Md} {mod:Nat} {e:Ex} {tt:Int} (h:toO ML (fstL ML 0) mod e=some tt) (h11:e.op=11):∃ t:Nat,tt=(t:Int)/\t < totL ML:=by
 unfold toO at h;rw [if_pos h11] at h
 cases hr:resO ML (mod:Int) e.text with
 | mk m q =>
  cases q with
  | mk r b =>
   rw [hr] at h
   cases b with
   | false=>cases h
   | true =>
    obtain ⟨mm,md,rfl,hmd,-,h0,hlt⟩:=resO_bd hr;have e1:(((fstL ML 0).getD (mm:Int).toNat 0:Nat):Int) + r=tt:=(by injection h);have e2:=fst_lt ML 0 mm md hmd;rw [Int.toNat_natCast] at e1;exact ⟨(fstL ML 0).getD mm 0 + r.toNat,by omega,by omega⟩
structure Gd (H:Nat) (N:List Nj):Prop where
 len:N.length<=160
 kl:∀ x ∈ N,x.ks.length<=160
 kid:∀ x ∈ N,∀ k ∈ x.ks,k < N.length
 ref:∀ x ∈ N,x.op=11->∃ t:Nat,x.tg=(t:Int)/\t < H
theorem Gd.push {H:Nat} {N:List Nj} (h:Gd H N) (hN:N.length < 160) (x:Nj) (hk:x.ks=[]) (hr:x.op=11->∃ t:Nat,x.tg=(t:Int)/\t < H):Gd H (N ++ [x]):=by
 refine ⟨by rw [List.length_append,List.length_singleton];omega,fun y hy=>?_,fun y hy k hky=>?_,fun y hy h11=>?_⟩
 ·
  rcases List.mem_append.1 hy with hy | hy
  · exact h.kl y hy
  · rw [List.mem_singleton.1 hy,hk];simp
 ·
  rw [List.length_append,List.length_singleton];rcases List.mem_append.1 hy with hy | hy
  · have:=h.kid y hy k hky;omega
  · rw [List.mem_singleton.1 hy,hk] at hky;cases hky
 ·
  rcases List.mem_append.1 hy with hy | hy
  · exact h.ref y hy h11
  · rw [List.mem_singleton.1 hy] at h11 ⊢;exact hr h11
theorem setK_mem {N:List Nj} {n:Nat} {ks:List Nat} {y:Nj} (hy:y ∈ setK N n ks):∃ x ∈ N,y.op=x.op/\y.tg=x.tg/\(y.ks=x.ks\/y.ks=ks):=by
 obtain ⟨j,hj⟩:=List.mem_iff_getElem?.1 hy;unfold setK at hj;rw [List.getElem?_modify] at hj
 cases hx:N[j]? with
 | none=>rw [hx] at hj;cases hj
 | some x =>
  rw [hx] at hj;have hj:(if n=j then { x with ks:=ks } else x)=y:=by simpa using hj
  refine ⟨x,aM hx,?_⟩;subst hj;split
  · exact ⟨rfl,rfl,.inr rfl⟩
  · exact ⟨rfl,rfl,.inl rfl⟩
theorem Gd.setk {H:Nat} {N:List Nj} (h:Gd H N) (n:Nat) (ks:List Nat) (hks:∀ k ∈ ks,k < N.length) (hl:ks.length<=160):Gd H (setK N n ks):=by
 refine ⟨by rw [setK_len];exact h.len,fun y hy=>?_,fun y hy k hky=>?_,fun y hy h11=>?_⟩
 ·
  obtain ⟨x,hx,-,-,e | e⟩:=setK_mem hy
  · rw [e];exact h.kl x hx
  · rw [e];exact hl
 ·
  rw [setK_len];obtain ⟨x,hx,-,-,e | e⟩:=setK_mem hy
  · rw [e] at hky;exact h.kid x hx k hky
  · rw [e] at hky;exact hks k hky
 · obtain ⟨x,hx,e1,e2,-⟩:=setK_mem hy;rw [e2];exact h.ref x hx (by rw [<- e1];exact h11)
theorem kidsF_ok {H:Nat} {P:Ex->List Nj->Pt}:∀ (K:List Ex) (N:List Nj) (ks:List Nat) (N':List Nj) (ks':List Nat),(∀ y ∈ K,∀ N N' n,Gd H N->P y N=(N',none,n)->Gd H N'/\N.length < N'.length/\n < N'.length) →
  Gd H N->(∀ k ∈ ks,k < N.length)->ks.length<=N.length->kidsF P K N ks=(N',none,ks')->Gd H N'/\(∀ k ∈ ks',k < N'.length)/\ks'.length<=N'.length/\N.length<=N'.length
 | [],N,ks,N',ks',hP,hg,hk,hl,h=>by have h:(N,(none:Option Ft3),ks)=(N',none,ks'):=h;injection h with e1 e2;injection e2 with _ e3;subst e1;subst e3;exact ⟨hg,hk,hl,Nat.le_refl _⟩
 | y :: r,N,ks,N',ks',hP,hg,hk,hl,h=>by
  unfold kidsF at h
  cases hy:P y N with
  | mk N1 q =>
   cases q with
   | mk F n =>
    rw [hy] at h
    cases F with
    | some f =>
     have h:(N1,(some f:Option Ft3),ks ++ [n])=(N',none,ks'):=h;injection h with _ e2;injection e2 with e3 _
     cases e3
    | none =>
     obtain ⟨g1,h1,h2⟩:=hP y (List.mem_cons_self ..) N N1 n hg hy
     obtain ⟨g2,h3,h4,h5⟩:=kidsF_ok r N1 (ks ++ [n]) N' ks' (fun z hz=>hP z (List.mem_cons_of_mem _ hz)) g1 (fun k hk2=>by
      rcases List.mem_append.1 hk2 with hk2 | hk2
      · have:=hk k hk2;omega
      · rw [List.mem_singleton.1 hk2];exact h2) (by rw [List.length_append,List.length_singleton];omega) h
     exact ⟨g2,h3,h4,by omega⟩
theorem put_ok {ML:List Md} {mod:Nat} {ru:Int}:∀ (d:Nat) (e:Ex) (N N':List Nj) (n:Nat),fit 90001 d e=true->Gd (totL ML) N->putN ML (fstL ML 0) mod ru d e N=(N',none,n)->Gd (totL ML) N'/\N.length < N'.length/\n < N'.length
 | 0,e,N,N',n,hf,_,_=>by cases hf
 | d + 1,e,N,N',n,hf,hg,h=>by
  unfold putN at h;by_cases hN:160<=N.length
  ·
   rw [if_pos hN] at h;injection h with _ e2;injection e2 with e3 _
   cases e3
  ·
   rw [if_neg hN] at h
   cases ht:toO ML (fstL ML 0) mod e with
   | none =>
    rw [ht] at h;injection h with _ e2;injection e2 with e3 _
    cases e3
   | some tt =>
    rw [ht] at h;have hp:Gd (totL ML) (N ++ [nodeJ e [] tt mod ru]):=hg.push (by omega) _ rfl (fun h11=>toO_lt ht h11);have h:endK N.length (kidsF (putN ML (fstL ML 0) mod ru d) e.kids (N ++ [nodeJ e [] tt mod ru]) [])=(N',none,n):=h
    cases hk:kidsF (putN ML (fstL ML 0) mod ru d) e.kids (N ++ [nodeJ e [] tt mod ru]) [] with
    | mk N1 q =>
     cases q with
     | mk F ks =>
      rw [hk] at h
      cases F with
      | some f =>
       have h:(N1,(some f:Option Ft3),N.length)=(N',none,n):=h;injection h with _ e2;injection e2 with e3 _
       cases e3
      | none =>
       have h:(setK N1 N.length ks,(none:Option Ft3),N.length)=(N',none,n):=h;injection h with e1 e2;injection e2 with _ e3
       obtain ⟨g1,h1,h2,h3⟩:=kidsF_ok e.kids _ [] N1 ks (fun y hy M M' k hM hq=>by
        obtain ⟨j,hj⟩:=List.mem_iff_getElem?.1 hy
        exact put_ok d y M M' k (fit_kid hf hj) hM hq) hp (fun k hk=>by cases hk) (Nat.zero_le _) hk
       rw [List.length_append,List.length_singleton] at h3;subst e1;subst e3;refine ⟨g1.setk _ _ h1 (Nat.le_trans h2 g1.len),?_,?_⟩ <;> rw [setK_len] <;> omega
theorem ruF_ok {H mod:Nat} {P:Int->Ex->List Nj->Pt}:∀ (rs:List (ByteArray × Ex)) (k:Nat) (N:List Nj) (A:List Hj) (N':List Nj) (A':List Hj),(∀ r ∈ rs,∀ i N N' n,Gd H N->P i r.2 N=(N',none,n)->Gd H N'/\N.length < N'.length/\n < N'.length) →
  Gd H N->(∀ h ∈ A,h.bo < N.length)->ruF P mod rs k N A=(N',none,A')->Gd H N'/\(∀ h ∈ A',h.bo < N'.length)/\A'.length=A.length + rs.length
 | [],k,N,A,N',A',hP,hg,hA,h=>by have h:(N,(none:Option Ft3),A)=(N',none,A'):=h;injection h with e1 e2;injection e2 with _ e3;subst e1;subst e3;exact ⟨hg,hA,rfl⟩
 | r :: rs,k,N,A,N',A',hP,hg,hA,h=>by
  unfold ruF at h
  cases hy:P (k:Int) r.2 N with
  | mk N1 q =>
   cases q with
   | mk F n =>
    rw [hy] at h
    cases F with
    | some f =>
     have h:(N1,(some f:Option Ft3),A ++ [⟨mod,r.1,n⟩])=(N',none,A'):=h;injection h with _ e2;injection e2 with e3 _
     cases e3
    | none =>
     obtain ⟨g1,h1,h2⟩:=hP r (List.mem_cons_self ..) k N N1 n hg hy
     obtain ⟨g2,h3,h4⟩:=ruF_ok rs (k + 1) N1 (A ++ [⟨mod,r.1,n⟩]) N' A' (fun z hz=>hP z (List.mem_cons_of_mem _ hz)) g1 (fun x hx=>by
      rcases List.mem_append.1 hx with hx | hx
      · have:=hA x hx;omega
      · rw [List.mem_singleton.1 hx];exact h2) h
     refine ⟨g2,h3,?_⟩;rw [h4,List.length_append,List.length_singleton,List.length_cons];omega
theorem mdF_ok {H:Nat} {P:Nat->Int->Ex->List Nj->Pt} (hP:∀ i k e N N' n,fit 90001 53 e=true->Gd H N->P i k e N=(N',none,n)->Gd H N'/\N.length < N'.length/\n < N'.length):∀ (l:List Md) (i:Nat) (s s':Sj),(∀ m ∈ l,fit 90001 53 m.wa=true/\∀ r ∈ m.ru,fit 90001 53 r.2=true) →
  Gd H s.ns->(∀ h ∈ s.hs,h.bo < s.ns.length)->mdF P l i s=(s',none)->Gd H s'.ns/\(∀ h ∈ s'.hs,h.bo < s'.ns.length)/\s'.hs.length=s.hs.length + totL l
 | [],i,s,s',hl,hg,hh,h=>by have h:(s,(none:Option Ft3))=(s',none):=h;injection h with e1 _;subst e1;exact ⟨hg,hh,rfl⟩
 | m :: r,i,s,s',hl,hg,hh,h=>by
  obtain ⟨hw,hr⟩:=hl m (List.mem_cons_self ..);unfold mdF at h
  cases hwa:waF (P i) m s.ns with
  | mk N1 q =>
   cases q with
   | mk F wt =>
    rw [hwa] at h
    cases F with
    | some f=>injection h with _ e2;cases e2
    | none =>
     have g1:Gd H N1/\s.ns.length<=N1.length:=by
      unfold waF at hwa;by_cases hwet:m.wet=true
      ·
       rw [if_pos hwet] at hwa
       cases hp:P i (-1) m.wa s.ns with
       | mk N2 q2 =>
        cases q2 with
        | mk F2 n2 =>
         rw [hp] at hwa;have hwa:(N2,F2,(n2:Int))=(N1,none,wt):=hwa;injection hwa with e1 e2;injection e2 with e3 _;subst e1;subst e3;obtain ⟨q1,q2,-⟩:=hP i (-1) m.wa s.ns N2 n2 hw hg hp;exact ⟨q1,Nat.le_of_lt q2⟩
      · rw [if_neg hwet] at hwa;injection hwa with e1 _;subst e1;exact ⟨hg,Nat.le_refl _⟩
     have h:(match ruF (P i) i m.ru 0 N1 s.hs with
      | (N2,some f,A)=>((⟨s.ms ++ [m.nm],N2,A,s.ws ++ [wt]⟩:Sj),some f)
      | (N2,none,A)=>mdF P r (i + 1) ⟨s.ms ++ [m.nm],N2,A,s.ws ++ [wt]⟩)=(s',none):=h
     cases hru:ruF (P i) i m.ru 0 N1 s.hs with
     | mk N2 q2 =>
      cases q2 with
      | mk F2 A =>
       rw [hru] at h
       cases F2 with
       | some f=>injection h with _ e2;cases e2
       | none =>
        obtain ⟨g2,h2,h3⟩:=ruF_ok m.ru 0 N1 s.hs N2 A (fun y hy k N N' n hN hq=>hP i k y.2 N N' n (hr y hy) hN hq) g1.1 (fun x hx=>by have:=hh x hx;have:=g1.2;omega) hru;obtain ⟨g3,h4,h5⟩:=mdF_ok hP r (i + 1) ⟨s.ms ++ [m.nm],N2,A,s.ws ++ [wt]⟩ s' (fun y hy=>hl y (List.mem_cons_of_mem _ hy)) g2 h2 h;refine ⟨g3,h4,?_⟩;rw [h5];show A.length + totL r=s.hs.length + (m.ru.length + totL r);omega
theorem join_good {ML:List Md} {s:ByteArray} {gr:Gj} (hok:∀ m ∈ ML,Okm m) (h:joinO ML s=.ok gr):Good gr:=by
 unfold joinO at h
 cases h1:hdO ML with
 | some f=>rw [h1] at h;cases h
 | none =>
  rw [h1] at h
  cases h2:mdO ML with
  | mk g F =>
   rw [h2] at h
   cases F with
   | some f=>cases h
   | none =>
    cases h3:startO ML (fstL ML 0) s with
    | none=>rw [h3] at h;cases h
    | some st =>
     rw [h3] at h;have h:(Except.ok (⟨g.ms,g.ns,g.hs,g.ws,st⟩:Gj):Except Ft3 Gj)=.ok gr:=h;injection h with e;subst e
     obtain ⟨q1,q2,q3⟩:=mdF_ok (H:=totL ML) (fun i k e N N' n hf hg hq=>put_ok 53 e N N' n hf hg hq) ML 0 ⟨[],[],[],[]⟩ g (fun m hm=>⟨(hok m hm).1.wa.2,fun r hr=>((hok m hm).1.bo r hr).2⟩)
      ⟨Nat.zero_le _,fun x hx=>(by cases hx),fun x hx=>(by cases hx),fun x hx=>(by cases hx)⟩ (fun x hx=>by cases hx) h2
     refine ⟨q1.len,fun x hx=>Nat.le_trans (q1.kl x hx) (by omega),q1.kid,fun x hx h11=>?_⟩;obtain ⟨t,ht,hlt⟩:=q1.ref x hx h11;have hq3:g.hs.length=0 + totL ML:=q3;obtain ⟨hh,hhe⟩:∃ z,g.hs[t]?=some z:=⟨_,aG (by omega)⟩;exact ⟨t,hh,ht,hhe,q2 hh (aM hhe)⟩
theorem jnd_good {l:List ByteArray} {s:ByteArray} {gr:Gj} (h:jndO l s=some gr):Good gr:=by
 unfold jndO at h
 cases h1:prsO l with
 | none=>rw [h1] at h;cases h
 | some ML =>
  rw [h1] at h;have h:(if 50 < s.size then none else exO2 (joinO ML s))=some gr:=h;by_cases hs:50 < s.size
  · rw [if_pos hs] at h;cases h
  ·
   rw [if_neg hs] at h
   cases hj:joinO ML s with
   | error f=>rw [hj] at h;cases h
   | ok g =>
    rw [hj] at h;have h:some g=some gr:=h;injection h with e;subst e;exact join_good (prsO_okm h1).1 hj
theorem same14_any (p q:Nat) (V U:Nat->Value) (T:Nat->List Int) (N B C:Nat) (hN:N<=1000) (hT:∀ k,k < N->((T k).length:Int)<=1000) (w:World) (hV:Own w p 25 ((List.range N).map V)) (hU:Own w q 25 ((List.range N).map U))
  (hv:∀ k,k < N->IntsAt w B (V k) (T k)) (hu:∀ k,k < N->IntsAt w C (U k) (T k)) :
  Calls Tryz.prog 8 #[.slice (some ⟨p,0,none⟩) N N,.slice (some ⟨q,0,none⟩) N N] w fun e w'=>e=.returned (.bool true)/\Below w.heap.size w w':=by
 have HV:=aH hV;have HU:=aH hU;have HI:=aH hv;have HJ:=aH hu;have HT:=aH hT;clear hV hU hv hu hT;go_enter Tryz.func8,Tryz.ntmps8;go_wp2_with fail
 go_loopw [4,5] (fun b4 b5 wr=>∃ k:Nat,b4=.bool false/\b5=.int .i64 (k:Int)/\(k:Int)<=N/\aQ (Below w.heap.size w wr)) (fun _ b5 _=>N - (intOf b5).toNat)
 case atStart=>exact ⟨0,rfl,rfl,by omega,aH (Below.refl _ _)⟩
 case round =>
  obtain ⟨k,rfl,rfl,hk,HB⟩:=hrel;by_cases hkn:(k:Int) < N
  ·
   have hk1:decide ((k:Int) < (N:Int))=true:=aT hkn;have hk2:decide (k < N)=true:=aT (by omega);have hkN:k < N:=(by omega);have hw1:IntKind.i64.wrap ((k:Int) + 1)=(k:Int) + 1:=wI;have HQV:=aH (HV.o.under HB.o HV.o.lt);have HQU:=aH (HU.o.under HB.o HU.o.lt);have p0:wr.cell? ⟨p,k,none⟩=some (V k):=(by rw [HQV.o.cell k,List.getElem?_map,List.getElem?_range hkN];rfl);have q0:wr.cell? ⟨q,k,none⟩=some (U k):=(by rw [HQU.o.cell k,List.getElem?_map,List.getElem?_range hkN];rfl);have pl:=HQV.o.lt;have ql:=HQU.o.lt;go_upto_region 6 with fail;refine wp_region_heldTz (fun Wx=>p < Wx.heap.size/\Wx.cell? ⟨p,k,none⟩=some (V k)/\q < Wx.heap.size/\Wx.cell? ⟨q,k,none⟩=some (U k)) 9 (by kernel_rfl) ?_;have HSS:=aH (show p < (World.drew wr).heap.size/\(World.drew wr).cell? ⟨p,k,none⟩=some (V k)/\q < (World.drew wr).heap.size/\(World.drew wr).cell? ⟨q,k,none⟩=some (U k) from ⟨pl,p0,ql,q0⟩);clear pl p0 ql q0;refine heldTz.pure 0 rfl (v:=?_) (Or.inl ⟨by rfl,?_⟩) HSS.o ?_;rotate_left;· intro W _;go_simp;try with_reducible rfl
   go_simp;refine heldTz.pure 1 rfl (v:=?_) (Or.inl ⟨by rfl,?_⟩) HSS.o ?_;rotate_left;· intro W _;go_simp;try with_reducible rfl
   go_simp;refine heldTz.pure 2 rfl (v:=?_) (Or.inl ⟨by rfl,?_⟩) HSS.o ?_;rotate_left;· intro W _;go_simp;try with_reducible rfl
   go_simp;refine heldTz.takeD 3 [8,9] rfl (v:=?_) (Or.inl ⟨by rfl,?_⟩) HSS.o ?_;rotate_left;· rintro W ⟨a0,a1,a2,a3⟩;go_simp;try with_reducible rfl
   go_simp;refine heldTz.pure 4 rfl (v:=?_) (Or.inl ⟨by rfl,?_⟩) HSS.o ?_;rotate_left;· intro W _;go_simp;try with_reducible rfl
   go_simp;refine heldTz.pure 5 rfl (v:=?_) (Or.inl ⟨by rfl,?_⟩) HSS.o ?_;rotate_left;· intro W _;go_simp;try with_reducible rfl
   go_simp;refine heldTz.pure 6 rfl (v:=?_) (Or.inl ⟨by rfl,?_⟩) HSS.o ?_;rotate_left;· intro W _;go_simp;try with_reducible rfl
   go_simp;refine heldTz.takeD 7 [8,9] rfl (v:=?_) (Or.inl ⟨by rfl,?_⟩) HSS.o ?_;rotate_left;· rintro W ⟨a0,a1,a2,a3⟩;go_simp;try with_reducible rfl
   go_simp;have HD:=aH (show Below wr.heap.size wr (World.drew wr) from (Below.refl _ _).drew);refine heldTz.one (i:=8) (by kernel_rfl) (op_call (f:=20) (vs:=#[V k,U k]) rfl (by kernel_rfl) (by go_simp) ((intsat_any (V k) (U k) (T k) B C (HT.o k hkN) (World.drew wr) (((HI.o k hkN).below HB.o).below HD.o) (((HJ.o k hkN).below HB.o).below HD.o)).mono ?_));rintro e w4 ⟨he,hb⟩;have HB4:=aH ((HB.o.trans (HD.o.mono HB.o.size)).trans (hb.mono (Nat.le_trans HB.o.size HD.o.size)));refine ⟨_,he,.inr (.inr ⟨aL HSS.o.1 hb.size,keepc HSS.o.2.1 hb,aL HSS.o.2.2.1 hb.size,keepc HSS.o.2.2.2 hb⟩),?_⟩;clear hb HSS HD;go_simp;refine heldTz.one (i:=9) (by kernel_rfl) (op_value (v:=.bool false) (w':=w4) rfl (by kernel_rfl) (by go_simp;try rfl) ?_);refine ⟨.inl rfl,?_⟩;go_simp;refine heldTz.done (by kernel_rfl) ?_ _;go_simp;try go_wp2
   go_roundw
   case rel=>exact ⟨k + 1,rfl,by go_num,by omega,HB4⟩
   case measure=>simp [intOf];omega
  · have hk1:decide ((k:Int) < (N:Int))=false:=aF hkn;have hk2:decide (k < N)=false:=aF (by omega);go_wp2;go_ret;exact ⟨rfl,HB.o⟩
theorem tel14_walk (l:List ByteArray) (ao:Option Addr) (cap:Nat) (s:ByteArray) (w:World) (hl:HasN w ao l):Calls Tryz.prog 3 #[.slice ao l.length cap,.string s] w fun e w'=>e=.returned (.bool true)/\Below w.heap.size w w':=by
 have HJD:=aH (joined14_any l ao cap s w hl);obtain ⟨R,hR⟩:∃ R,jndO l s=R:=⟨_,rfl⟩;have HR:=aH hR;rw [hR] at HJD;obtain ⟨nl,hnl⟩:∃ n,l.length=n:=⟨_,rfl⟩;rw [hnl] at HJD;rw [hnl];clear hl hR hnl;go_enter Tryz.func3,Tryz.ntmps3;go_wp2_with fail;refine HJD.o.mono ?_;rintro e w2 ⟨hE,hb2⟩;have HB2:=aH hb2;clear hb2 HJD
 cases R with
 | none =>
  have hE':e=.returned (.tuple #[.agg #[.slice none 0 0,.slice none 0 0,.slice none 0 0,.slice none 0 0,.int .i64 0],.bool false]):=hE;subst hE';have hbl:Below w2.heap.size w2 (w2.alloc (.cells #[.slice none 0 0,.slice none 0 0,.slice none 0 0,.slice none 0 0,.int .i64 0] 27)):=bA _;have HB3:=aH (HB2.o.trans (hbl.mono HB2.o.size));clear hbl hE;go_upto_region 2 with fail;generalize w2.alloc (.cells #[.slice none 0 0,.slice none 0 0,.slice none 0 0,.slice none 0 0,.int .i64 0] 27)=w3 at *;have HAW:=aH (awake14_any w3);go_wp2_with fail;refine HAW.o.mono ?_;rintro e w4 ⟨he,hb4⟩;subst he;have HB4:=aH (HB3.o.trans (hb4.mono HB3.o.size));clear hb4;go_wp2;go_ret;exact ⟨rfl,HB4.o⟩
 | some gr =>
  obtain ⟨a,he,hG⟩:∃ a,e=.returned (.tuple #[grv gr a,.bool true])/\HasG w2 gr a:=hE;subst he;have hg:Good gr:=jnd_good HR.o;have HGD:=aH hg;have har:=jnd_ar HR.o;have HAR:=aH har;have htr:=jnd_tr HR.o;have HTR:=aH htr;have HEN:=aH (nextG_end hg har);have hbl:Below w2.heap.size w2 (w2.alloc (.cells #[.slice a.mo gr.ms.length a.mc,.slice a.no gr.ns.length a.nc,.slice a.ho gr.hs.length a.hc,.slice a.wo gr.ws.length a.wc,.int .i64 gr.st] 27)):=bA _;have HB3:=aH (HB2.o.trans (hbl.mono HB2.o.size));have HG3:=aH (hG.below hbl);have HO3:=aH (Own.fresh w2 27 [.slice a.mo gr.ms.length a.mc,.slice a.no gr.ns.length a.nc,.slice a.ho gr.hs.length a.hc,.slice a.wo gr.ws.length a.wc,.int .i64 gr.st]);have HN:=aH (fun W (h:HasG W gr a)=>snext_any gr a hg har W h);have HM:=aH (fun W (h:HasG W gr a)=>rshore_any gr a hg har W h);have HLT:=aH (fun k (hk:k < gr.ns.length)=>(RisL.room (HEN.o.1.ris k) (fun x hx=>(HEN.o.1.ok k x hx).rng)));unfold NxE at HN;unfold RxE at HM;unfold grv;unfold grv at HN HM;have hn160:=hg.len;obtain ⟨nn,hnn⟩:∃ z,gr.ns.length=z:=⟨_,rfl⟩;obtain ⟨nh,hnh⟩:∃ z,gr.hs.length=z:=⟨_,rfl⟩;obtain ⟨nms,hnms⟩:∃ z,gr.ms.length=z:=⟨_,rfl⟩;obtain ⟨nw,hnw⟩:∃ z,gr.ws.length=z:=⟨_,rfl⟩;have HNN:=aH (And.intro hnn hnh);simp only [hnn,hnh,hnms,hnw] at HB3 HG3 HO3 HN HM HLT hbl;rw [hnn] at hn160;rw [hnn,hnh,hnms,hnw];clear hnn hnh hnms hnw hG hg hbl har htr HEN HTR HAR;go_upto_region 2 with fail;obtain ⟨B,hB⟩:∃ B,w2.heap.size=B:=⟨_,rfl⟩;rw [hB] at HO3;generalize w2.alloc (.cells #[.slice a.mo nms a.mc,.slice a.no nn a.nc,.slice a.ho nh a.hc,.slice a.wo nw a.wc,.int .i64 gr.st] 27)=w3 at *;try rw [hB]
  clear hB HB2
  have HC:=aH (show ∀ W,Below w3.heap.size w3 W->W.cell? ⟨B,0,none⟩=some (.slice a.mo nms a.mc)/\W.cell? ⟨B,1,none⟩=some (.slice a.no nn a.nc)/\W.cell? ⟨B,2,none⟩=some (.slice a.ho nh a.hc)/\W.cell? ⟨B,3,none⟩=some (.slice a.wo nw a.wc)/\W.cell? ⟨B,4,none⟩=some (.int .i64 gr.st)/\B < W.heap.size from fun W h=>by
   have q:=HO3.o.under h HO3.o.lt
   exact ⟨q.cell 0,q.cell 1,q.cell 2,q.cell 3,q.cell 4,q.lt⟩)
  have HAW:=aH (fun W=>awake14_any W);go_upto_region 4 with fail;refine wp_region_heldTz (fun Wx=>Below w3.heap.size w3 Wx) 8 (by kernel_rfl) ?_;have HS:=aH (show Below w3.heap.size w3 (World.drew w3) from (Below.refl _ _).drew);refine heldTz.one (i:=0) (by kernel_rfl) (op_call (f:=7) (vs:=#[]) rfl (by kernel_rfl) (by go_simp) ((HAW.o (World.drew w3)).mono ?_));rintro e w4 ⟨he,hb⟩;refine ⟨_,he,.inr (.inr (HS.o.trans (hb.mono HS.o.size))),?_⟩;have HS:=aH (HS.o.trans (hb.mono HS.o.size));clear hb;go_simp;refine heldTz.one (i:=1) (by kernel_rfl) (op_value (v:=.bool true) (w':=w4) rfl (by kernel_rfl) (by go_simp;try rfl) ?_);refine ⟨.inr (.inr HS.o),?_⟩;go_simp;refine heldTz.takeD 2 [3,5,6,7,8] rfl (v:=?_) (Or.inl ⟨by rfl,?_⟩) HS.o ?_;rotate_left;· intro W hW;obtain ⟨a0,a1,a2,a3,a4,al⟩:=HC.o W hW;go_simp;try with_reducible rfl
  go_simp;refine heldTz.takeD 4 [5,6,7,8] rfl (v:=?_) (Or.inl ⟨by rfl,?_⟩) HS.o ?_;rotate_left;· intro W hW;obtain ⟨a0,a1,a2,a3,a4,al⟩:=HC.o W hW;go_simp;try with_reducible rfl
  go_simp;refine heldTz.one (i:=3) (by kernel_rfl) (op_call (f:=9) (vs:=#[.agg #[.slice a.mo nms a.mc,.slice a.no nn a.nc,.slice a.ho nh a.hc,.slice a.wo nw a.wc,.int .i64 gr.st]]) rfl (by kernel_rfl) (by go_simp) ((HN.o w4 (HG3.o.below HS.o)).mono ?_));rintro e w5 ⟨q,he,⟨V,hV1,hV2⟩,-,hb⟩;have HV1:=aH hV1;have HV2:=aH hV2;refine ⟨_,he,.inr (.inr (HS.o.trans (hb.mono HS.o.size))),?_⟩;have HS:=aH (HS.o.trans (hb.mono HS.o.size));clear hb hV1 hV2;go_simp;refine heldTz.one (i:=5) (by kernel_rfl) (op_call (f:=10) (vs:=#[.agg #[.slice a.mo nms a.mc,.slice a.no nn a.nc,.slice a.ho nh a.hc,.slice a.wo nw a.wc,.int .i64 gr.st]]) rfl (by kernel_rfl) (by go_simp) ((HM.o w5 (HG3.o.below HS.o)).mono ?_));rintro e w6 ⟨q2,he,⟨U,hU1,hU2⟩,-,hb⟩;have HU1:=aH hU1;have HU2:=aH hU2;have HV1:=aH (HV1.o.under hb HV1.o.lt);have HV2:=aH (fun k (hk:k < nn)=>(HV2.o k hk).below hb);refine ⟨_,he,.inr (.inr (HS.o.trans (hb.mono HS.o.size))),?_⟩;have HS:=aH (HS.o.trans (hb.mono HS.o.size));clear hb hU1 hU2;go_simp;refine heldTz.one (i:=6) (by kernel_rfl) (op_call (f:=8) (vs:=#[.slice (some ⟨q,0,none⟩) nn nn,.slice (some ⟨q2,0,none⟩) nn nn]) rfl (by kernel_rfl) (by go_simp) ((same14_any q q2 V U (nextG gr) nn _ _ (by omega) (fun k hk=>by have:=HLT.o k hk;omega) w6 HV1.o HU1.o HV2.o HU2.o).mono ?_));rintro e w7 ⟨he,hb⟩;refine ⟨_,he,.inr (.inr (HS.o.trans (hb.mono HS.o.size))),?_⟩;have HS:=aH (HS.o.trans (hb.mono HS.o.size));clear hb;go_simp;refine heldTz.one (i:=7) (by kernel_rfl) (op_value (v:=.bool true) (w':=w7) rfl (by kernel_rfl) (by go_simp;try rfl) ?_);refine ⟨.inr (.inr HS.o),?_⟩;go_simp;refine heldTz.one (i:=8) (by kernel_rfl) (op_value (v:=.bool true) (w':=w7) rfl (by kernel_rfl) (by go_simp;try rfl) ?_);refine ⟨.inr (.inr HS.o),?_⟩;go_simp;refine heldTz.done (by kernel_rfl) ?_ _;have HE:=aH (HB3.o.trans (HS.o.mono HB3.o.size));go_simp;try go_wp2
  go_ret;exact ⟨rfl,HE.o⟩
end Go.Proofs.YthddifjhoniacaaGreat
