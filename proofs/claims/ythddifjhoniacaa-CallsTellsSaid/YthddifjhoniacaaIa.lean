import Derived.Test.YthddifjhoniacaaJz
namespace Go.Proofs.Ythddifjhoniacaa
set_option linter.unusedVariables false
set_option maxHeartbeats 9600000
set_option maxRecDepth 1000000
open Go.RowKit Go.Sort
def exO2:Except Ft3 Gj->Option Gj
 | .ok g=>some g
 | .error _=>none
def jndO (l:List ByteArray) (s:ByteArray):Option Gj:=match prsO l with
 | none=>none
 | some ML=>if 50 < s.size then none else exO2 (joinO ML s)
def jndR (s:ByteArray):Option (List Md)->Option Gj
 | none=>none
 | some ML=>if 50 < s.size then none else exO2 (joinO ML s)
theorem jndO_q (l:List ByteArray) (s:ByteArray):jndO l s=jndR s (prsO l):=by
 unfold jndO jndR
 cases prsO l <;> rfl
def GjE (r:Option Gj) (e:Ending) (w':World):Prop:=match r with
 | some gr=>∃ a,e=.returned (.tuple #[grv gr a,.bool true])/\HasG w' gr a
 | none=>e=.returned (.tuple #[.agg #[.slice none 0 0,.slice none 0 0,.slice none 0 0,.slice none 0 0,.int .i64 0],.bool false])
structure Good (gr:Gj):Prop where
 len:gr.ns.length<=160
 kl:∀ x ∈ gr.ns,x.ks.length<=90001
 kid:∀ x ∈ gr.ns,∀ k ∈ x.ks,k < gr.ns.length
 ref:∀ x ∈ gr.ns,x.op=11->∃ (t:Nat) (h:Hj),x.tg=(t:Int)/\gr.hs[t]?=some h/\h.bo < gr.ns.length
def bodyG (gr:Gj) (n:Nat):Nat:=match gr.ns[n]? with
 | none=>n
 | some x=>if x.op=11 then (match gr.hs[x.tg.toNat]? with
  | some h=>h.bo
  | none=>0) else n
def nulB (gr:Gj) (M:Nat->Bool) (n:Nat):Bool:=match gr.ns[n]? with
 | none=>false
 | some x=>if x.op=6\/x.op=8\/x.op=9\/x.op=10 then true else if x.op=4\/x.op=7\/x.op=12 then x.ks.all M else if x.op=5 then x.ks.any M else if x.op=11 then M (bodyG gr n) else false
def faiB (gr:Gj) (M:Nat->Bool) (n:Nat):Bool:=match gr.ns[n]? with
 | none=>true
 | some x=>if x.op=6\/x.op=8 then false else if x.op=4 then x.ks.any M else if x.op=5\/x.op=7\/x.op=12\/x.op=9 then x.ks.all M else if x.op=11 then M (bodyG gr n) else true
def setB (M:Nat->Bool) (n:Nat):Nat->Bool:=fun j=>if j=n then true else M j
def passB (R:(Nat->Bool)->Nat->Bool):Nat->Nat->(Nat->Bool)->Bool->(Nat->Bool) × Bool
 | 0,_,M,z=>(M,z)
 | k + 1,n,M,z=>if (!M n && R M n)=true then passB R k (n + 1) (setB M n) true else passB R k (n + 1) M z
def leastB (R:(Nat->Bool)->Nat->Bool) (N:Nat):Nat->(Nat->Bool)->(Nat->Bool)
 | 0,M=>M
 | f + 1,M=>match passB R N 0 M false with
  | (M',true)=>leastB R N f M'
  | (M',false)=>M'
def nulG (gr:Gj):Nat->Bool:=leastB (nulB gr) gr.ns.length (gr.ns.length + 1) (fun _=>false)
def faiG (gr:Gj):Nat->Bool:=leastB (faiB gr) gr.ns.length (gr.ns.length + 1) (fun _=>false)
def rowB (M:Nat->Bool) (N:Nat):List Value:=(List.range N).map (fun j=>Value.bool (M j))
theorem rowB_at (M:Nat->Bool) (N j:Nat) (h:j < N):(rowB M N)[j]?=some (.bool (M j)):=by unfold rowB;rw [List.getElem?_map,List.getElem?_range h];rfl
theorem rowB_set (M:Nat->Bool) (N n:Nat) (h:n < N):(rowB M N).set n (.bool true)=rowB (setB M n) N:=by
 apply List.ext_getElem?;intro j;rw [List.getElem?_set];by_cases hj:j < N
 ·
  rw [rowB_at _ N j hj];by_cases e:n=j
  · subst e;rw [if_pos rfl,if_pos (by unfold rowB;simpa using h),rowB_at _ N n hj];unfold setB;rw [if_pos rfl]
  · rw [if_neg e,rowB_at (setB M n) N j hj];unfold setB;rw [if_neg (fun h=>e h.symm)]
 ·
  have h1:(rowB M N)[j]?=none:=by rw [List.getElem?_eq_none];unfold rowB;simp;omega
  have h2:(rowB (setB M n) N)[j]?=none:=by rw [List.getElem?_eq_none];unfold rowB;simp;omega
  rw [h1,h2,if_neg (by omega)]
def lackB (M:Nat->Bool):Nat->Nat
 | 0=>0
 | n + 1=>lackB M n + (if M n=true then 0 else 1)
theorem lackB_le (M:Nat->Bool):∀ n,lackB M n<=n
 | 0=>Nat.le_refl _
 | n + 1=>by have:=lackB_le M n;unfold lackB;split <;> omega
theorem lackB_one (M:Nat->Bool) (k:Nat) (hk:M k=false):∀ n,k < n->0 < lackB M n
 | 0,h=>absurd h (Nat.not_lt_zero _)
 | n + 1,h=>by
  unfold lackB;by_cases e:k=n
  · subst e;rw [hk,if_neg (by decide)];omega
  · have:=lackB_one M k hk n (by omega);omega
theorem lackB_set (M:Nat->Bool) (k:Nat) (hk:M k=false):∀ n,lackB (setB M k) n=if k < n then lackB M n - 1 else lackB M n
 | 0=>by simp [lackB]
 | n + 1=>by
  have ih:=lackB_set M k hk n;have e1:lackB (setB M k) (n + 1)=lackB (setB M k) n + (if setB M k n=true then 0 else 1):=rfl;have e2:lackB M (n + 1)=lackB M n + (if M n=true then 0 else 1):=rfl;rw [e1,e2,ih];by_cases e:n=k
  · subst e;have hs:setB M n n=true:=(by unfold setB;rw [if_pos rfl]);rw [hs,hk,if_neg (Nat.lt_irrefl n),if_pos (Nat.lt_succ_self n),if_pos rfl,if_neg (by decide)];omega
  ·
   have hs:setB M k n=M n:=(by unfold setB;rw [if_neg e]);rw [hs];by_cases h:k < n
   · have hp:=lackB_one M k hk n h;rw [if_pos h,if_pos (show k < n + 1 by omega)];omega
   · rw [if_neg h,if_neg (show ¬ k < n + 1 by omega)]
theorem gall_snoc {α:Type} {f:α->Bool} {K:List α} {k:Nat} {y:α} (h:K[k]?=some y):(K.take (k + 1)).all f=((K.take k).all f && f y):=by obtain ⟨h1,h2⟩:=aS.1 h;rw [List.take_succ_eq_append_getElem h1,List.all_append,h2];simp
theorem gall_no {α:Type} {f:α->Bool} {K:List α} {k:Nat} {y:α} (h:K[k]?=some y) (hf:f y=false):K.all f=false:=by rw [List.all_eq_false];exact ⟨y,aM h,by rw [hf];simp⟩
theorem gany_snoc {α:Type} {f:α->Bool} {K:List α} {k:Nat} {y:α} (h:K[k]?=some y):(K.take (k + 1)).any f=((K.take k).any f || f y):=by obtain ⟨h1,h2⟩:=aS.1 h;rw [List.take_succ_eq_append_getElem h1,List.any_append,h2];simp
theorem gany_yes {α:Type} {f:α->Bool} {K:List α} {k:Nat} {y:α} (h:K[k]?=some y) (hf:f y=true):K.any f=true:=by rw [List.any_eq_true];exact ⟨y,aM h,hf⟩
theorem eall_any (M:Nat->Bool) (N g:Nat) (hN:N<=160) (L:List Nat) (R:Nat->Prop) (ao:Option Addr) (c:Nat) (hL:∀ k ∈ L,k < N) (h9:L.length<=90001) (w:World) (hm:Own w g 4 (rowB M N)) (hk:HasKn w R ao L) :
  Calls Try.prog 62 #[.slice (some ⟨g,0,none⟩) N N,.slice ao L.length c] w fun e w'=>e=.returned (.bool (L.all M))/\w'=w:=by
 have HL:=aH hL;have HM:=aH hm;have HK:=aH hk;obtain ⟨n,hn⟩:∃ z,L.length=z:=⟨_,rfl⟩;have HN:=aH hn;obtain ⟨RES,hRES⟩:∃ z,L.all M=z:=⟨_,rfl⟩;have HRES:=aH hRES;rw [hn] at h9;rw [hRES,hn];clear hL hm hk hn hRES;go_enter Try.func62,Try.ntmps62;go_wp2_with fail
 go_loopw [9] (fun v9 wr=>∃ k:Nat,v9=.int .i64 (k:Int)/\(k:Int)<=n/\aQ ((L.take k).all M=true)/\wr=w) (fun v9 _=>n - (intOf v9).toNat)
 case atStart=>exact ⟨0,rfl,by omega,aH rfl,(by first | trivial | rfl)⟩
 case round =>
  obtain ⟨k,rfl,hk,HA,rfl⟩:=hrel;by_cases hkn:(k:Int) < n
  ·
   have hkn1:decide ((k:Int) < n)=true:=aT hkn;have hkn2:decide (k < n)=true:=aT (by omega);obtain ⟨x,hx⟩:∃ x,L[k]?=some x:=⟨_,aG (by have:=HN.o;omega)⟩;obtain ⟨b,off,hao,hb,-,c0⟩:=HK.o k x hx;have hxN:=HL.o x (aM hx);have HX:=aH hx;have m0:wr.cell? ⟨g,x,none⟩=some (.bool (M x)):=(by rw [HM.o.cell x];exact rowB_at M N x hxN);have hgl:=HM.o.lt;have hx1:decide ((x:Int) < (N:Int))=true:=aT (by omega);have hx2:decide (x < N)=true:=aT hxN;have hw1:IntKind.i64.wrap ((k:Int) + 1)=(k:Int) + 1:=wI;obtain ⟨z,hz⟩:∃ z,M x=z:=⟨_,rfl⟩;have HZ:=aH hz;rw [hz] at m0;subst hao;clear hx hz
   cases z with
   | false =>
    have HE:=aH (show RES=false from by rw [<- HRES.o];exact gall_no HX.o HZ.o);go_wp2;go_ret;rw [HE.o];exact ⟨rfl,rfl⟩
   | true =>
    have HA1:=aH (show (L.take (k + 1)).all M=true from by rw [gall_snoc HX.o,HA.o,HZ.o];rfl);go_wp2
    go_roundw
    case rel=>exact ⟨k + 1,by go_num,by omega,HA1,(by first | trivial | rfl)⟩
    case measure=>simp [intOf];omega
  · have hkn1:decide ((k:Int) < n)=false:=aF hkn;have hkn2:decide (k < n)=false:=aF (by omega);have HE:=aH (show RES=true from by rw [<- HRES.o,<- HA.o,List.take_of_length_le (by have:=HN.o;omega)]);go_wp2;go_ret;rw [HE.o];exact ⟨rfl,rfl⟩
theorem eone_any (M:Nat->Bool) (N g:Nat) (hN:N<=160) (L:List Nat) (R:Nat->Prop) (ao:Option Addr) (c:Nat) (hL:∀ k ∈ L,k < N) (h9:L.length<=90001) (w:World) (hm:Own w g 4 (rowB M N)) (hk:HasKn w R ao L) :
  Calls Try.prog 63 #[.slice (some ⟨g,0,none⟩) N N,.slice ao L.length c] w fun e w'=>e=.returned (.bool (L.any M))/\w'=w:=by
 have HL:=aH hL;have HM:=aH hm;have HK:=aH hk;obtain ⟨n,hn⟩:∃ z,L.length=z:=⟨_,rfl⟩;have HN:=aH hn;obtain ⟨RES,hRES⟩:∃ z,L.any M=z:=⟨_,rfl⟩;have HRES:=aH hRES;rw [hn] at h9;rw [hRES,hn];clear hL hm hk hn hRES;go_enter Try.func63,Try.ntmps63;go_wp2_with fail
 go_loopw [9] (fun v9 wr=>∃ k:Nat,v9=.int .i64 (k:Int)/\(k:Int)<=n/\aQ ((L.take k).any M=false)/\wr=w) (fun v9 _=>n - (intOf v9).toNat)
 case atStart=>exact ⟨0,rfl,by omega,aH rfl,(by first | trivial | rfl)⟩
 case round =>
  obtain ⟨k,rfl,hk,HA,rfl⟩:=hrel;by_cases hkn:(k:Int) < n
  ·
   have hkn1:decide ((k:Int) < n)=true:=aT hkn;have hkn2:decide (k < n)=true:=aT (by omega);obtain ⟨x,hx⟩:∃ x,L[k]?=some x:=⟨_,aG (by have:=HN.o;omega)⟩;obtain ⟨b,off,hao,hb,-,c0⟩:=HK.o k x hx;have hxN:=HL.o x (aM hx);have HX:=aH hx;have m0:wr.cell? ⟨g,x,none⟩=some (.bool (M x)):=(by rw [HM.o.cell x];exact rowB_at M N x hxN);have hgl:=HM.o.lt;have hx1:decide ((x:Int) < (N:Int))=true:=aT (by omega);have hx2:decide (x < N)=true:=aT hxN;have hw1:IntKind.i64.wrap ((k:Int) + 1)=(k:Int) + 1:=wI;obtain ⟨z,hz⟩:∃ z,M x=z:=⟨_,rfl⟩;have HZ:=aH hz;rw [hz] at m0;subst hao;clear hx hz
   cases z with
   | true =>
    have HE:=aH (show RES=true from by rw [<- HRES.o];exact gany_yes HX.o HZ.o);go_wp2;go_ret;rw [HE.o];exact ⟨rfl,rfl⟩
   | false =>
    have HA1:=aH (show (L.take (k + 1)).any M=false from by rw [gany_snoc HX.o,HA.o,HZ.o];rfl);go_wp2
    go_roundw
    case rel=>exact ⟨k + 1,by go_num,by omega,HA1,(by first | trivial | rfl)⟩
    case measure=>simp [intOf];omega
  · have hkn1:decide ((k:Int) < n)=false:=aF hkn;have hkn2:decide (k < n)=false:=aF (by omega);have HE:=aH (show RES=false from by rw [<- HRES.o,<- HA.o,List.take_of_length_le (by have:=HN.o;omega)]);go_wp2;go_ret;rw [HE.o];exact ⟨rfl,rfl⟩
theorem ebody_any (gr:Gj) (a:Gv) (hg:Good gr) (n:Nat) (hn:n < gr.ns.length) (w:World) (hG:HasG w gr a) :
  Calls Try.prog 40 #[grv gr a,.int .i64 (n:Int)] w fun e w'=>e=.returned (.int .i64 (bodyG gr n:Int))/\Below w.heap.size w w':=by
 have HGD:=aH hg;obtain ⟨x,hx⟩:∃ x,gr.ns[n]?=some x:=⟨_,aG hn⟩;have HX:=aH hx;have HR:=aH (hg.ref x (aM hx))
 have HBO:=aH (show bodyG gr n=if x.op=11 then (match gr.hs[x.tg.toNat]? with
  | some h=>h.bo
  | none=>0) else n from by unfold bodyG;rw [hx];try rfl)
 have HB1:=gB w a gr;have HO1:=gO w a gr;obtain ⟨b,off,ko,kc,hno,hb,-,c0,-,-,-,-,-,-,c7,-,-,-⟩:=(hG.below HB1.o).1 n x hx;have HHS:=aH (hG.below HB1.o).2.1;have HNO:=aH hno;clear hno;unfold grv;obtain ⟨nn,hnn⟩:∃ z,gr.ns.length=z:=⟨_,rfl⟩;obtain ⟨nh,hnh⟩:∃ z,gr.hs.length=z:=⟨_,rfl⟩;obtain ⟨nms,hnms⟩:∃ z,gr.ms.length=z:=⟨_,rfl⟩;obtain ⟨nw,hnw⟩:∃ z,gr.ws.length=z:=⟨_,rfl⟩;have HNN:=aH (And.intro hnn hnh);have hn160:nn<=160:=by rw [<- hnn];exact hg.len
 rw [hnn] at hn;rw [hnn,hnh,hnms,hnw] at HB1 HO1 c0 c7 HHS hb;rw [hnn,hnh,hnms,hnw];have hn1:decide ((n:Int) < (nn:Int))=true:=aT (by omega);have hn2:decide (n < nn)=true:=aT hn;obtain ⟨B,hB⟩:∃ B,w.heap.size=B:=⟨_,rfl⟩;have HB:=aH hB;rw [hB] at HO1;obtain ⟨op,hop⟩:∃ z,x.op=z:=⟨_,rfl⟩;rw [hop] at c0 HR HBO;clear hx hg hG hnn hnh hnms hnw hop;go_enter Try.func40,Try.ntmps40;go_upto_region 1 with fail;generalize w.alloc (.cells #[.slice a.mo nms a.mc,.slice a.no nn a.nc,.slice a.ho nh a.hc,.slice a.wo nw a.wc,.int .i64 gr.st] 27)=w1 at *;try rw [hB]
 clear hB;have g1:w1.cell? ⟨B,1,none⟩=some (.slice a.no nn a.nc):=HO1.o.cell 1;have g2:w1.cell? ⟨B,2,none⟩=some (.slice a.ho nh a.hc):=HO1.o.cell 2;have hno:=HNO.o;rw [hno] at g1;have gl:=HO1.o.lt;by_cases h11:op=11
 ·
  subst h11;obtain ⟨t,h,ht,hh,hbo⟩:=HR.o rfl;obtain ⟨hb2,hoff,hho,hhl,-,d0,d1,d2⟩:=HHS.o t h hh;rw [ht] at c7;rw [hho] at g2;have htn:t < nh:=by have:=(aS.1 hh).1;have:=HNN.o.2;omega
  have ht1:decide ((t:Int) < (nh:Int))=true:=aT (by omega);have ht2:decide (t < nh)=true:=aT htn;have HE:=aH (show bodyG gr n=h.bo from by rw [HBO.o,if_pos rfl,ht,Int.toNat_natCast,hh]);clear ht hh hho hno;go_wp2_with fail;go_quiet (fail);have HB2:=aH (below_drewN HB1.o nq);go_wp2;go_ret;rw [HE.o];exact ⟨rfl,HB2.o⟩
 · have h11a:(op != 11)=true:=bne_iff_ne.2 h11;have h11b:(op == 11)=false:=aN.2 h11;have HE:=aH (show bodyG gr n=n from by rw [HBO.o,if_neg h11]);clear hno;go_wp2;go_ret;rw [HE.o];exact ⟨rfl,HB1.o⟩
theorem HasKn.below {R:Nat->Prop} {w w':World} {ao:Option Addr} {L:List Nat} (h:HasKn w R ao L) (hb:Below w.heap.size w w'):HasKn w' R ao L:=h.but (S:=fun _=>False) (But.of_below hb) fun _ _ _ h=>h
theorem bodyG_lt {gr:Gj} (hg:Good gr) {n:Nat} (hn:n < gr.ns.length):bodyG gr n < gr.ns.length:=by
 obtain ⟨x,hx⟩:∃ x,gr.ns[n]?=some x:=⟨_,aG hn⟩;unfold bodyG;rw [hx]
 show (if x.op=11 then (match gr.hs[x.tg.toNat]? with
  | some h=>h.bo
  | none=>0) else n) < gr.ns.length
 split
 ·
  next h11 =>
  obtain ⟨t,h,ht,hh,hbo⟩:=hg.ref x (aM hx) h11;rw [ht,Int.toNat_natCast,hh];exact hbo
 · exact hn
theorem etake_any (gr:Gj) (a:Gv) (hg:Good gr) (M:Nat->Bool) (n g:Nat) (hn:n < gr.ns.length) (w:World) (hG:HasG w gr a) (hm:Own w g 4 (rowB M gr.ns.length)) :
  Calls Try.prog 43 #[grv gr a,.slice (some ⟨g,0,none⟩) gr.ns.length gr.ns.length,.int .i64 (n:Int)] w fun e w'=>e=.returned (.bool (nulB gr M n))/\Below w.heap.size w w':=by
 obtain ⟨x,hx⟩:∃ x,gr.ns[n]?=some x:=⟨_,aG hn⟩;have HRU:=aH (show nulB gr M n=if x.op=6\/x.op=8\/x.op=9\/x.op=10 then true else if x.op=4\/x.op=7\/x.op=12 then x.ks.all M else if x.op=5 then x.ks.any M else if x.op=11 then M (bodyG gr n) else false from by unfold nulB;rw [hx]);have HB1:=gB w a gr;have HO1:=gO w a gr;have HM1:=aH (hm.under HB1.o hm.lt);have HG1:=aH (hG.below HB1.o);obtain ⟨b,off,ko,kc,hno,hb,-,c0,c1,c2,c3,c4,c5,c6,c7,c8,c9,hk⟩:=HG1.o.1 n x hx;have HK1:=aH hk;have HNO:=aH hno;have HQ:=aH (bodyG_lt hg hn);have HAL:=aH (fun W h1 h2=>eall_any M gr.ns.length g hg.len x.ks (fun _=>True) ko kc (hg.kid x (aM hx)) (hg.kl x (aM hx)) W h1 h2);have HON:=aH (fun W h1 h2=>eone_any M gr.ns.length g hg.len x.ks (fun _=>True) ko kc (hg.kid x (aM hx)) (hg.kl x (aM hx)) W h1 h2);have HBO:=aH (fun W h=>ebody_any gr a hg n hn W h);clear hno hk;unfold grv;unfold grv at HBO;obtain ⟨RES,hRES⟩:∃ z,nulB gr M n=z:=⟨_,rfl⟩;obtain ⟨nn,hnn⟩:∃ z,gr.ns.length=z:=⟨_,rfl⟩;obtain ⟨nh,hnh⟩:∃ z,gr.hs.length=z:=⟨_,rfl⟩;obtain ⟨nms,hnms⟩:∃ z,gr.ms.length=z:=⟨_,rfl⟩;obtain ⟨nw,hnw⟩:∃ z,gr.ws.length=z:=⟨_,rfl⟩;obtain ⟨nk,hnk⟩:∃ z,x.ks.length=z:=⟨_,rfl⟩;obtain ⟨op,hop⟩:∃ z,x.op=z:=⟨_,rfl⟩;obtain ⟨q,hq⟩:∃ z,bodyG gr n=z:=⟨_,rfl⟩;have hn160:nn<=160:=by rw [<- hnn];exact hg.len
 rw [hnn] at hn;rw [hRES,hop,hq] at HRU;rw [hq,hnn] at HQ;rw [hnk,hnn] at HAL HON;rw [hnn,hnh,hnms,hnw,hq] at HBO;rw [hnn,hnh,hnms,hnw] at HB1 HO1 HM1 HG1 HK1 c0 c1 c2 c3 c4 c5 c6 c7 c8 c9 hb;rw [hnk] at c6;rw [hop] at c0;rw [hRES,hnn,hnh,hnms,hnw];have hn1:decide ((n:Int) < (nn:Int))=true:=aT (by omega);have hn2:decide (n < nn)=true:=aT hn;obtain ⟨B,hB⟩:∃ B,w.heap.size=B:=⟨_,rfl⟩;have HW1:=aH (show (w.alloc (.cells #[.slice a.mo nms a.mc,.slice a.no nn a.nc,.slice a.ho nh a.hc,.slice a.wo nw a.wc,.int .i64 gr.st] 27)).heap.size=B + 1 from by rw [<- hB];simp);rw [hB] at HO1;clear hx hg hG hm hRES hnn hnh hnms hnw hnk hop hq;go_enter Try.func43,Try.ntmps43;go_upto_region 1 with fail;generalize w.alloc (.cells #[.slice a.mo nms a.mc,.slice a.no nn a.nc,.slice a.ho nh a.hc,.slice a.wo nw a.wc,.int .i64 gr.st] 27)=w1 at *;try rw [hB]
 clear hB;have g0:w1.cell? ⟨B,0,none⟩=some (.slice a.mo nms a.mc):=HO1.o.cell 0;have g1:w1.cell? ⟨B,1,none⟩=some (.slice a.no nn a.nc):=HO1.o.cell 1;have g2:w1.cell? ⟨B,2,none⟩=some (.slice a.ho nh a.hc):=HO1.o.cell 2;have g3:w1.cell? ⟨B,3,none⟩=some (.slice a.wo nw a.wc):=HO1.o.cell 3;have g4:w1.cell? ⟨B,4,none⟩=some (.int .i64 gr.st):=HO1.o.cell 4;have gl:=HO1.o.lt;rw [HNO.o] at g1;have hbl:Below w1.heap.size w1 (w1.alloc (.cells #[.int .i64 op,.string x.tx,.int .u64 x.s0,.int .u64 x.s1,.int .u64 x.s2,.int .u64 x.s3,.slice ko nk kc,.int .i64 x.tg,.int .i64 (x.mo:Int),.int .i64 x.ru] 44)):=bA _;have HBL:=aH hbl;have HB2:=aH (HB1.o.trans (hbl.mono HB1.o.size));have HM2:=aH (HM1.o.under hbl HM1.o.lt);have HG2:=aH (HG1.o.below hbl);have HK2:=aH (HK1.o.below hbl);have HO2:=aH (HO1.o.under hbl HO1.o.lt);have HN2:=aH (Own.fresh w1 44 [.int .i64 op,.string x.tx,.int .u64 x.s0,.int .u64 x.s1,.int .u64 x.s2,.int .u64 x.s3,.slice ko nk kc,.int .i64 x.tg,.int .i64 (x.mo:Int),.int .i64 x.ru]);rw [HW1.o] at HN2;clear hbl;go_upto_region 2 with fail;generalize w1.alloc (.cells #[.int .i64 op,.string x.tx,.int .u64 x.s0,.int .u64 x.s1,.int .u64 x.s2,.int .u64 x.s3,.slice ko nk kc,.int .i64 x.tg,.int .i64 (x.mo:Int),.int .i64 x.ru] 44)=w2 at *;try rw [HW1.o]
 have y0:w2.cell? ⟨B + 1,0,none⟩=some (.int .i64 op):=HN2.o.cell 0;have y3:w2.cell? ⟨B + 1,6,none⟩=some (.slice ko nk kc):=HN2.o.cell 6;have yl:=HN2.o.lt;clear c0 c1 c2 c3 c4 c5 c6 c7 c8 c9 g0 g1 g2 g3 g4 gl hb HO1 HM1 HG1 HK1 HB1;rcases op_cases op with h | ⟨h1,h2,h3,hA,h4,h5,h6,h7,h8,h9,h10,h12,h13⟩
 ·
  rcases h with rfl | rfl | rfl | rfl | rfl | rfl | rfl | rfl | rfl | rfl | rfl | rfl | rfl
  · have HE:=aH (show RES=false from by rw [HRU.o];first | rfl | simp);go_wp2;go_ret;rw [HE.o];exact ⟨rfl,HB2.o⟩
  · have HE:=aH (show RES=false from by rw [HRU.o];first | rfl | simp);go_wp2;go_ret;rw [HE.o];exact ⟨rfl,HB2.o⟩
  · have HE:=aH (show RES=false from by rw [HRU.o];first | rfl | simp);go_wp2;go_ret;rw [HE.o];exact ⟨rfl,HB2.o⟩
  · have HE:=aH (show RES=M q from by rw [HRU.o];first | rfl | simp);have d0:w2.cell? ⟨B,0,none⟩=some (.slice a.mo nms a.mc):=HO2.o.cell 0;have d1:w2.cell? ⟨B,1,none⟩=some (.slice a.no nn a.nc):=HO2.o.cell 1;have d2:w2.cell? ⟨B,2,none⟩=some (.slice a.ho nh a.hc):=HO2.o.cell 2;have d3:w2.cell? ⟨B,3,none⟩=some (.slice a.wo nw a.wc):=HO2.o.cell 3;have d4:w2.cell? ⟨B,4,none⟩=some (.int .i64 gr.st):=HO2.o.cell 4;have dl:=HO2.o.lt;go_wp2_with fail;refine (HBO.o w2 HG2.o).mono ?_;rintro e w3 ⟨he,hb3⟩;subst he;have HM3:=aH (HM2.o.under hb3 HM2.o.lt);have HB3:=aH (HB2.o.trans (hb3.mono HB2.o.size));have hqn:=HQ.o;have m0:w3.cell? ⟨g,q,none⟩=some (.bool (M q)):=(by rw [HM3.o.cell q];exact rowB_at M nn q hqn);have ml:=HM3.o.lt;have hq1:decide ((q:Int) < (nn:Int))=true:=aT (by omega);have hq2:decide (q < nn)=true:=aT hqn;obtain ⟨z,hz⟩:∃ z,M q=z:=⟨_,rfl⟩;rw [hz] at m0 HE;clear hb3 hz;go_wp2;go_ret;rw [HE.o];exact ⟨rfl,HB3.o⟩
  · have HE:=aH (show RES=x.ks.all M from by rw [HRU.o];first | rfl | simp);go_wp2_with fail;refine (HAL.o w2 HM2.o HK2.o).mono ?_;rintro e w3 ⟨he,hw3⟩;subst he;subst hw3;go_wp2;go_ret;rw [HE.o];exact ⟨rfl,HB2.o⟩
  · have HE:=aH (show RES=x.ks.any M from by rw [HRU.o];first | rfl | simp);go_wp2_with fail;refine (HON.o w2 HM2.o HK2.o).mono ?_;rintro e w3 ⟨he,hw3⟩;subst he;subst hw3;go_wp2;go_ret;rw [HE.o];exact ⟨rfl,HB2.o⟩
  · have HE:=aH (show RES=true from by rw [HRU.o];first | rfl | simp);go_wp2;go_ret;rw [HE.o];exact ⟨rfl,HB2.o⟩
  · have HE:=aH (show RES=x.ks.all M from by rw [HRU.o];first | rfl | simp);go_wp2_with fail;refine (HAL.o w2 HM2.o HK2.o).mono ?_;rintro e w3 ⟨he,hw3⟩;subst he;subst hw3;go_wp2;go_ret;rw [HE.o];exact ⟨rfl,HB2.o⟩
  · have HE:=aH (show RES=true from by rw [HRU.o];first | rfl | simp);go_wp2;go_ret;rw [HE.o];exact ⟨rfl,HB2.o⟩
  · have HE:=aH (show RES=true from by rw [HRU.o];first | rfl | simp);go_wp2;go_ret;rw [HE.o];exact ⟨rfl,HB2.o⟩
  · have HE:=aH (show RES=true from by rw [HRU.o];first | rfl | simp);go_wp2;go_ret;rw [HE.o];exact ⟨rfl,HB2.o⟩
  · have HE:=aH (show RES=x.ks.all M from by rw [HRU.o];first | rfl | simp);go_wp2_with fail;refine (HAL.o w2 HM2.o HK2.o).mono ?_;rintro e w3 ⟨he,hw3⟩;subst he;subst hw3;go_wp2;go_ret;rw [HE.o];exact ⟨rfl,HB2.o⟩
  · have HE:=aH (show RES=false from by rw [HRU.o];first | rfl | simp);go_wp2;go_ret;rw [HE.o];exact ⟨rfl,HB2.o⟩
 ·
  have HE:=aH (show RES=false from by
   simp only [aN] at h1 h2 h3 hA h4 h5 h6 h7 h8 h9 h10 h12 h13;rw [HRU.o]
   simp only [h4,h5,h6,h7,h8,h9,h10,hA,h12,if_false,or_self])
  go_wp2;go_ret;rw [HE.o];exact ⟨rfl,HB2.o⟩
end Go.Proofs.Ythddifjhoniacaa
