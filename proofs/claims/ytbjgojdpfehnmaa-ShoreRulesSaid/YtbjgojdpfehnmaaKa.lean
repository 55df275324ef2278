import Derived.Test.YtbjgojdpfehnmaaLx
import Derived.Test.YtbjgojdpfehnmaaMd
import Derived.BigQuiet
namespace Go.Proofs.Ytbjgojdpfehnmaa
set_option linter.unusedVariables false
open Go.RowKit Go.Sort
theorem row_mem {NU:Nat->Bool} {n:Nat}:∀ {L:List Nat} {i k:Nat},L[i]?=some k->∀ a ∈ behA NU n k (L.drop (i + 1)),a ∈ rowA NU n L
 | [],i,k,h=>by simp at h
 | y :: r,0,k,h=>by simp at h;subst h;intro a ha;exact List.mem_append.2 (.inl (by simpa using ha))
 | y :: r,i + 1,k,h=>by intro a ha;exact List.mem_append.2 (.inr (row_mem (L:=r) (i:=i) (k:=k) (by simpa using h) a (by simpa using ha)))
theorem row_of {NU:Nat->Bool} {n:Nat}:∀ {L:List Nat} {a:ActN},a ∈ rowA NU n L->∃ j,L[j]?=some a.1/\a ∈ behA NU n a.1 (L.drop (j + 1))
 | [],a,h=>by cases h
 | k :: r,a,h=>by
  rcases List.mem_append.1 h with h | h
  · have e:=beh_to NU n k r a h;exact ⟨0,by rw [e];rfl,by rw [e];simpa using h⟩
  · obtain ⟨j,h1,h2⟩:=row_of (L:=r) h;exact ⟨j + 1,by simpa using h1,by simpa using h2⟩
theorem beh_turn {NU:Nat->Bool} {n k b:Nat}:∀ {r:List Nat} {a:ActN},a ∈ behA NU n b r->((k,a.2):ActN) ∈ behA NU n k r
 | [],a,h=>by have h:a ∈ [((b,false,n):ActN)]:=h;rw [List.mem_singleton] at h;rw [h];exact List.mem_singleton.2 rfl
 | c :: r,a,h=>by
  have h:a ∈ ((b,true,c):ActN) :: (if NU c=true then behA NU n b r else []):=h;show ((k,a.2):ActN) ∈ ((k,true,c):ActN) :: (if NU c=true then behA NU n k r else []);rcases List.mem_cons.1 h with e | h
  · rw [e];exact List.mem_cons_self ..
  ·
   by_cases hc:NU c=true
   · rw [if_pos hc] at h ⊢;exact List.mem_cons_of_mem _ (beh_turn h)
   · rw [if_neg hc] at h;cases h
theorem nodup_kids:∀ {N:List Nj} {n:Nat} {x:Nj},(kidsOf N).Nodup->N[n]?=some x->x.ks.Nodup
 | [],n,x,_,h=>by simp at h
 | y :: r,0,x,hN,h=>by simp at h;subst h;rw [kidsOf_cons] at hN;exact (List.nodup_append.1 hN).1
 | y :: r,n + 1,x,hN,h=>by rw [kidsOf_cons] at hN;exact nodup_kids (List.nodup_append.1 hN).2.1 (by simpa using h)
theorem kid_one:∀ {N:List Nj} {n m:Nat} {x y:Nj} {k:Nat},(kidsOf N).Nodup->N[n]?=some x->N[m]?=some y->k ∈ x.ks->k ∈ y.ks->n=m
 | [],n,m,x,y,k,_,h,_,_,_=>by simp at h
 | z :: r,0,0,x,y,k,_,_,_,_,_=>rfl
 | z :: r,0,m + 1,x,y,k,hN,h1,h2,hk1,hk2=>by simp at h1;subst h1;rw [kidsOf_cons] at hN;exact absurd rfl ((List.nodup_append.1 hN).2.2 k hk1 k (List.mem_flatMap.2 ⟨y,aM (by simpa using h2),hk2⟩))
 | z :: r,n + 1,0,x,y,k,hN,h1,h2,hk1,hk2=>by simp at h2;subst h2;rw [kidsOf_cons] at hN;exact absurd rfl ((List.nodup_append.1 hN).2.2 k hk2 k (List.mem_flatMap.2 ⟨x,aM (by simpa using h1),hk1⟩))
 | z :: r,n + 1,m + 1,x,y,k,hN,h1,h2,hk1,hk2=>by rw [kidsOf_cons] at hN;rw [kid_one (List.nodup_append.1 hN).2.1 (n:=n) (m:=m) (by simpa using h1) (by simpa using h2) hk1 hk2]
section
variable {gr:Gj} {n:Nat} {x:Nj}
theorem next_act (hg:Good gr) (har:∀ x ∈ gr.ns,Ar x) (hx:gr.ns[n]?=some x) {a:ActN} (ha:a ∈ actG gr (nulG gr) n):∀ y ∈ srcN (leadG gr) (nextG gr) a,y ∈ nextG gr a.1 :=
 (nextG_end hg har).2 n (aS.1 hx).1 a ha
theorem act_row (hx:gr.ns[n]?=some x) (ho:x.op=4):actG gr (nulG gr) n=rowA (nulG gr) n x.ks:=by rw [actG_eq hx,if_neg (by omega),if_neg (by omega),if_pos ho]
theorem next_lead (hg:Good gr) (har:∀ x ∈ gr.ns,Ar x) (hx:gr.ns[n]?=some x) (ho:x.op=4) {i k b:Nat} (hk:x.ks[i]?=some k) (hb:x.ks[i + 1]?=some b):∀ y ∈ leadG gr b,y ∈ nextG gr k:=by
 have h:((k,true,b):ActN) ∈ actG gr (nulG gr) n:=by rw [act_row hx ho];refine row_mem hk _ ?_;obtain ⟨h1,h2⟩:=aS.1 hb;rw [List.drop_eq_getElem_cons h1,h2];exact List.mem_cons_self ..
 exact next_act hg har hx h
theorem next_null (hg:Good gr) (har:∀ x ∈ gr.ns,Ar x) (ht:TrG gr.ns gr.hs) (hx:gr.ns[n]?=some x) (ho:x.op=4) {i k b:Nat} (hk:x.ks[i]?=some k) (hb:x.ks[i + 1]?=some b) (hu:nulG gr b=true):∀ y ∈ nextG gr b,y ∈ nextG gr k:=fun y hy=>by
 have hnd:(kidsOf gr.ns).Nodup:=(List.nodup_append.1 ht.1).2.1;obtain ⟨m,a,hm,ha,e,hs⟩:=(nextG_end hg har).1.sup b y hy;obtain ⟨z,hz⟩:∃ z,gr.ns[m]?=some z:=⟨_,aG hm⟩;have hbk:b ∈ x.ks:=aM hb;rcases actG_to hz ha with ⟨h11,e2⟩ | ⟨-,hk2⟩
 · exfalso;obtain ⟨t,h2,htg,hh2,-⟩:=hg.ref z (aM hz) h11;rw [bodyG_at hz h11 htg hh2] at e2;exact ht.off hh2 (aM hx) (by rw [<- e2,e];exact hbk)
 ·
  rw [e] at hk2;obtain rfl:m=n:=kid_one hnd hz hx hk2 hbk;obtain rfl:z=x:=by rw [hx] at hz;injection hz with hz;exact hz.symm
  rw [act_row hx ho] at ha;obtain ⟨j,h1,h2⟩:=row_of ha;rw [e] at h1 h2;obtain rfl:j=i + 1:=nodup_idx (nodup_kids hnd hx) h1 hb;have h3:((k,a.2):ActN) ∈ rowA (nulG gr) m z.ks:=by refine row_mem hk _ ?_;obtain ⟨q1,q2⟩:=aS.1 hb;rw [List.drop_eq_getElem_cons q1,q2];refine List.mem_cons_of_mem _ ?_;rw [if_pos hu];exact beh_turn h2
  rw [<- act_row hx ho] at h3;exact next_act hg har hx h3 y hs
theorem next_last (hg:Good gr) (har:∀ x ∈ gr.ns,Ar x) (hx:gr.ns[n]?=some x) (ho:x.op=4) {i k:Nat} (hk:x.ks[i]?=some k) (hl:i + 1=x.ks.length):∀ y ∈ nextG gr n,y ∈ nextG gr k:=by
 have h:((k,false,n):ActN) ∈ actG gr (nulG gr) n:=by rw [act_row hx ho];refine row_mem hk _ ?_;rw [List.drop_of_length_le (by omega)];exact List.mem_singleton.2 rfl
 exact next_act hg har hx h
theorem next_many (hg:Good gr) (har:∀ x ∈ gr.ns,Ar x) (hx:gr.ns[n]?=some x) (ho:x.op=6\/x.op=7) {k:Nat} (hk:k ∈ x.ks):(∀ y ∈ leadG gr k,y ∈ nextG gr k)/\∀ y ∈ nextG gr n,y ∈ nextG gr k:=by
 have e:actG gr (nulG gr) n=x.ks.flatMap (fun k=>[((k,true,k):ActN),(k,false,n)]):=by rw [actG_eq hx,if_neg (by omega),if_neg (by omega),if_neg (by omega),if_pos ho]
 exact ⟨next_act hg har hx (a:=(k,true,k)) (by rw [e];exact List.mem_flatMap.2 ⟨k,hk,List.mem_cons_self ..⟩),next_act hg har hx (a:=(k,false,n)) (by rw [e];exact List.mem_flatMap.2 ⟨k,hk,List.mem_cons_of_mem _ (List.mem_cons_self ..)⟩)⟩
theorem next_part (hg:Good gr) (har:∀ x ∈ gr.ns,Ar x) (hx:gr.ns[n]?=some x) (ho:x.op=5\/x.op=8\/x.op=12\/x.op=13) {k:Nat} (hk:k ∈ x.ks):∀ y ∈ nextG gr n,y ∈ nextG gr k:=by
 have e:actG gr (nulG gr) n=x.ks.map (fun k=>((k,false,n):ActN)):=by rw [actG_eq hx,if_neg (by omega),if_neg (by omega),if_neg (by omega),if_neg (by omega)]
 exact next_act hg har hx (a:=(k,false,n)) (by rw [e];exact List.mem_map.2 ⟨k,hk,rfl⟩)
theorem next_body (hg:Good gr) (har:∀ x ∈ gr.ns,Ar x) (hx:gr.ns[n]?=some x) (ho:x.op=11):∀ y ∈ nextG gr n,y ∈ nextG gr (bodyG gr n):=by
 have e:actG gr (nulG gr) n=[((bodyG gr n,false,n):ActN)]:=by rw [actG_eq hx,if_neg (by omega),if_pos ho]
 exact next_act hg har hx (a:=(bodyG gr n,false,n)) (by rw [e];exact List.mem_singleton.2 rfl)
end
set_option maxRecDepth 1000000 in
set_option maxHeartbeats 1600000 in
theorem within_any (v u:Value) (A L:List Int) (B C:Nat) (ha:(A.length:Int)<=1000) (hl:(L.length:Int)<=1000) (hAL:∀ x ∈ A,x ∈ L) (w:World) (hv:IntsAt w B v A) (hu:IntsAt w C u L) :
  Calls Try.prog 22 #[v,u] w fun e w'=>e=.returned (.bool true)/\Below w.heap.size w w':=by
 obtain ⟨ao,ca,rfl,hca,hA⟩:=hv;obtain ⟨bo,cb,rfl,hcb,hC⟩:=hu;have HA:=aH hA;have HC:=aH hC;have HAL:=aH hAL;obtain ⟨n,hn⟩:∃ n,A.length=n:=⟨_,rfl⟩;obtain ⟨m,hm⟩:∃ m,L.length=m:=⟨_,rfl⟩;have HN:=aH hn;have HM:=aH hm;rw [hn] at ha hca;rw [hm] at hl hcb;rw [hn,hm];clear hA hC hAL hn hm;go_enter Try.func22,Try.ntmps22;go_wp2_with fail
 go_loopw [5,6,7] (fun v5 v6 v7 wr=>∃ i d:Nat,v5=.int .i64 (i:Int)/\(i:Int)<=n/\wr=w.drewN d) (fun v5 _ _ _=>n - (intOf v5).toNat)
 case atStart=>exact ⟨0,0,rfl,by omega,rfl⟩
 case round =>
  obtain ⟨i,d,rfl,hi,rfl⟩:=hrel;by_cases hin:(i:Int) < n
  ·
   have hi1:decide ((i:Int) < (n:Int))=true:=aT hin;have hi2:decide (i < n)=true:=aT (by omega);have hi3:i < n:=(by omega);have hw1:IntKind.i64.wrap ((i:Int) + 1)=(i:Int) + 1:=wI;obtain ⟨g,off,hao,hg1,-,c1⟩:=HA.o i (by have:=HN.o;omega);obtain ⟨x,hx⟩:∃ x,A.getD i 0=x:=⟨_,rfl⟩;have HXL:=aH (show x ∈ L from HAL.o x (by rw [<- hx,List.getD_eq_getElem?_getD,aG (by have:=HN.o;omega)];exact List.getElem_mem _));rw [hx] at c1;subst hao;clear hx;go_wp2_with fail
   go_loopw [6,7] (fun v6 v7 wq=>∃ k e:Nat,v6=.bool ((L.take k).any (fun y=>x == y))/\v7=.int .i64 (k:Int)/\(k:Int)<=m/\wq=w.drewN e) (fun _ v7 _=>m - (intOf v7).toNat)
   case atStart=>exact ⟨0,d,rfl,rfl,by omega,rfl⟩
   case round =>
    obtain ⟨k,e,rfl,rfl,hk,rfl⟩:=hrel;by_cases hkm:(k:Int) < m
    ·
     have hk1:decide ((k:Int) < (m:Int))=true:=aT hkm;have hk2:decide (k < m)=true:=aT (by omega);have hk3:k < m:=(by omega);have hw2:IntKind.i64.wrap ((k:Int) + 1)=(k:Int) + 1:=wI;obtain ⟨g2,off2,hbo,hg2,-,c2⟩:=HC.o k (by have:=HM.o;omega);have hlk:L[k]?=some (L.getD k 0):=(by rw [List.getD_eq_getElem?_getD,aG (by have:=HM.o;omega)];rfl);have HST:=aH (any_take_succ (f:=fun y=>x == y) hlk);obtain ⟨y,hy⟩:∃ y,L.getD k 0=y:=⟨_,rfl⟩;rw [hy] at c2 HST;subst hbo;obtain ⟨z,hz⟩:∃ z,(L.take k).any (fun y=>x == y)=z:=⟨_,rfl⟩;obtain ⟨b,hb⟩:∃ z,(x == y)=z:=⟨_,rfl⟩;have HST2:=aH (show (L.take (k + 1)).any (fun y=>x == y)=(z || b) from by rw [HST.o,hz,hb]);rw [hz];clear hlk hy hz HST
     cases z <;> cases b
     all_goals
      go_wp2_with fail;go_quiet (fail);go_wp2
      go_roundw
      case rel=>exact ⟨k + 1,e + nq,by rw [HST2.o];rfl,by go_num,by omega,rfl⟩
      case measure=>simp [intOf];omega
    ·
     have hk1:decide ((k:Int) < (m:Int))=false:=aF hkm;have hk2:decide (k < m)=false:=aF (by omega);have hal:(L.take k).any (fun y=>x == y)=true:=(by rw [List.take_of_length_le (by have:=HM.o;omega),List.any_eq_true];exact ⟨x,HXL.o,by simp⟩);rw [hal];clear hal;go_wp2
     go_roundw
     case rel=>exact ⟨i + 1,e,by go_num,by omega,rfl⟩
     case measure=>simp [intOf];omega
  · have hi1:decide ((i:Int) < (n:Int))=false:=aF hin;have hi2:decide (i < n)=false:=aF (by omega);go_wp2;go_ret;exact ⟨rfl,below_drewN (Below.refl _ _) d⟩
end Go.Proofs.Ytbjgojdpfehnmaa
