import Derived.Test.YthkdnehgamefiaaGreatJpG
import Derived.Test.YthkdnehgamefiaaGreatJz
namespace Go.Proofs.YthkdnehgamefiaaGreat
set_option linter.unusedVariables false
open Go.RowKit Go.Sort
def phJ (i:Nat) (l:List (ByteArray × Ex)):List Hj:=l.map (fun r=>⟨i,r.1,0⟩)
def UP (P:Int->Ex->List Nj->Pt) (mod:Nat) (RL:List (ByteArray × Ex)) (R:List Nj × Option Ft3 × List Hj) (k:Nat) (N:List Nj) (H:List Hj):Option Ft3->Prop
 | none=>R=ruF P mod (RL.drop k) k N H
 | some f=>R=(N,some f,H)
theorem UP.step {P:Int->Ex->List Nj->Pt} {mod:Nat} {RL:List (ByteArray × Ex)} {R:List Nj × Option Ft3 × List Hj} {k n1:Nat} {N N1:List Nj} {H:List Hj} {r:ByteArray × Ex} {F1:Option Ft3} (h:UP P mod RL R k N H none) (hr:RL[k]?=some r) (hp:P (k:Int) r.2 N=(N1,F1,n1)):UP P mod RL R (k + 1) N1 (H ++ [⟨mod,r.1,n1⟩]) F1:=by
 have h:R=ruF P mod (RL.drop k) k N H:=h;obtain ⟨h1,h2⟩:=aS.1 hr;rw [List.drop_eq_getElem_cons h1,h2] at h;unfold ruF at h;rw [hp] at h
 cases F1 with
 | none=>exact h
 | some f=>exact h
theorem UP.done {P:Int->Ex->List Nj->Pt} {mod:Nat} {RL:List (ByteArray × Ex)} {R:List Nj × Option Ft3 × List Hj} {k:Nat} {N:List Nj} {H:List Hj} (h:UP P mod RL R k N H none) (hk:RL.length<=k):R=(N,none,H):=by have h:R=ruF P mod (RL.drop k) k N H:=h;rw [List.drop_eq_nil_of_le hk] at h;exact h
def amF (P:Int->Ex->List Nj->Pt) (i:Nat) (m:Md) (N:List Nj) (hs:List Hj) (ws:List Int):Option Ft3 × List Nj × List Hj × List Int :=
 match waF P m N with
 | (N1,some f,_)=>(some f,N1,hs,ws)
 | (N1,none,wt)=>match ruF P i m.ru 0 N1 hs with
  | (N2,F,H)=>(F,N2,H,ws ++ [wt])
theorem hj_set (i n b0:Nat) (nm:ByteArray) (T:List Hj):∀ H1:List Hj,((H1 ++ ⟨i,nm,b0⟩ :: T).flatMap zD).set (H1.length * 3 + 2) (.int .i64 (n:Int))=(H1 ++ ⟨i,nm,n⟩ :: T).flatMap zD
 | []=>rfl
 | x :: r=>by rw [List.cons_append,List.cons_append,List.flatMap_cons,List.flatMap_cons,List.set_append_right _ _ (by show 3<=(r.length + 1) * 3 + 2;omega),<- hj_set i n b0 nm T r,show (x :: r).length * 3 + 2 - (zD x).length=r.length * 3 + 2 from by show (r.length + 1) * 3 + 2 - 3=_;omega]
section
variable {w0 w w' w3 wq:World} {g:Nat} {c:Nat->Nat} {rows rows':Rw} {v:Nat->Value} {lv:Value} {st:Int} {F:Option Ft3} {N:List Nj}
theorem Jp.grown {Z:List Zj} (h:Wp w0 w g c (upd rows 2 (Z.length,Z.flatMap tyN)) v lv st F) (hZ:Z.map (·.n)=N) (hK:∀ z ∈ Z,Il w (fun b=>c b=7) z) (hq:Below w.heap.size w wq) {i:Nat} (h1:1<=i) (h5:i<=5) (h2:i ≠ 2) {v':Value} {m:Nat} {news:List Value}
  (hw:Win (fun b=>c b=i\/wq.heap.size<=b) (tyJ i) (szJ i) w3 v' ((rows i).1 + m) ((rows i).2 ++ news)) (hb:But (fun b=>c b=i) wq w3) (hr:∀ k,upd rows i ((rows i).1 + m,(rows i).2 ++ news) k=rows' k) :
  Jp w0 (w3.setCell ⟨g,peJ i,none⟩ v') g (Qj c wq w3 i) rows' lv st N F:=by
 have hG:=h.grown hq (i:=i) (v':=v') (m:=m) (news:=news) h1 h5 (by rw [iB _ _ h2];exact hw) hb;refine ⟨_,Z,hG.1.rows_eq fun k k1 k5=>?_,hZ,Ml hK hG.2.1 (fun b hlt h7 hs=>?_) hG.2.2⟩
 ·
  by_cases e2:k=2
  · subst e2;rw [iB _ _ (fun e=>h2 e.symm),upd_same,upd_same]
  ·
   by_cases ei:k=i
   · subst ei;rw [upd_same,iB rows' _ e2,<- hr k,upd_same,iB rows _ e2]
   · rw [iB _ _ ei,iB _ _ e2,iB _ _ e2,<- hr k,iB _ _ ei]
 ·
  rcases hs with hs | hs
  · rw [hs,h.cg] at h7;omega
  · have hs:c b=i:=hs;omega
theorem Jp.sethead {ms:List ByteArray} {H1 T:List Hj} {ws:List Int} {FL:List Nat} {i b0:Nat} {nm:ByteArray} (n:Nat) (h:Jp w0 w g c (mO ms (H1 ++ ⟨i,nm,b0⟩ :: T) ws FL) lv st N F) :
  ∃ b off cap,w.cell? ⟨g,4,none⟩=some (.slice (some ⟨b,off,none⟩) (H1 ++ ⟨i,nm,b0⟩ :: T).length cap)/\b < w.heap.size/\w.cell? ⟨b,off + H1.length * 3 + 2,none⟩=some (.int .i64 (b0:Int))/\w.frozen? ⟨b,off + H1.length * 3 + 2,none⟩=false ∧
   Jp w0 (w.setCell ⟨b,off + H1.length * 3 + 2,none⟩ (.int .i64 (n:Int))) g c (mO ms (H1 ++ ⟨i,nm,n⟩ :: T) ws FL) lv st N F:=by
 obtain ⟨v,Z,hW,hZ,hK⟩:=h;have w3:Win (fun b=>c b=3) 64 3 w (v 3) (H1 ++ ⟨i,nm,b0⟩ :: T).length ((H1 ++ ⟨i,nm,b0⟩ :: T).flatMap zD):=by have q:=hW.win 3 (by omega) (by omega);rw [iB _ _ (by decide)] at q;exact q
 obtain ⟨ao,cap,e3,-,-,f3⟩:=w3.form;obtain ⟨b,off,e,hs,hb,hcc,hfr⟩:=f3 (H1.length * 3 + 2) (by rw [List.length_append,List.length_cons];omega);subst e;rw [A0K (H1 ++ ⟨i,nm,b0⟩ :: T) H1.length 2 ⟨i,nm,b0⟩ (by rw [List.getElem?_append_right (Nat.le_refl _)];simp) (by omega)] at hcc;have hS:=hW.setrow (i:=3) (b:=b) (off:=off) (cap:=cap) (j:=H1.length * 3 + 2) (by omega) (by omega) (by rw [iB _ _ (by decide)];exact e3) (.int .i64 (n:Int)) (by rw [iB _ _ (by decide)];show H1.length * 3 + 2 < (H1 ++ ⟨i,nm,b0⟩ :: T).length * 3;rw [List.length_append,List.length_cons];omega);refine ⟨b,off,cap,?_,hb,by rw [Nat.add_assoc,hcc];rfl,by rw [Nat.add_assoc];exact hfr,?_⟩
 · have q:w.cell? ⟨g,4,none⟩=some (v 3):=hW.own.cell 4;rw [q,e3]
 ·
  rw [Nat.add_assoc];refine ⟨v,Z,hS.1.rows_eq fun k k1 k5=>?_,hZ,fun z hz=>(hK z hz).but hS.2 fun x _ hx hx2=>?_⟩
  ·
   by_cases e:k=3
   · subst e;rw [upd_same,iB _ _ (by decide),iB _ _ (by decide)];show ((H1 ++ ⟨i,nm,b0⟩ :: T).length,((H1 ++ ⟨i,nm,b0⟩ :: T).flatMap zD).set (H1.length * 3 + 2) (.int .i64 (n:Int)))=((H1 ++ ⟨i,nm,n⟩ :: T).length,(H1 ++ ⟨i,nm,n⟩ :: T).flatMap zD);rw [hj_set];simp
   ·
    rw [iB _ _ e];by_cases e2:k=2
    · subst e2;rw [upd_same,upd_same]
    ·
     rw [iB _ _ e2,iB _ _ e2];obtain rfl | rfl | rfl:k=1\/k=4\/k=5:=by omega
     · rfl
     · rfl
     · rfl
  · have hx2:c x=3:=hx2;have hx:c x=7:=hx;omega
end
def AmE (w0 w':World) (g:Nat) (lv:Value) (ms:List ByteArray) (T:List Hj) (FL:List Nat) (e:Ending):Option Ft3 × List Nj × List Hj × List Int->Prop
 | (some f,_)=>e=.returned (.bool false)/\∃ (c:Nat->Nat) (rows:Rw) (N:List Nj),Jp w0 w' g c rows lv 0 N (some f)
 | (none,N,H,W)=>e=.returned (.bool true)/\N.length<=160/\∃ c:Nat->Nat,Jp w0 w' g c (mO ms (H ++ T) W FL) lv 0 N none
set_option maxRecDepth 1000000 in
set_option maxHeartbeats 12800000 in
theorem pmod_any (ML:List Md) (FL:List Nat) (mo:Option Addr) (mc:Nat) (w0:World) (D0:Nat) (hM:fK w0 D0 mo ML) (hfew:Few ML) (hmx:Mx w0) (hok:∀ m ∈ ML,Okm m) (h5:ML.length<=8) (hFL:FL.length=ML.length) (hFb:∀ x ∈ FL,x<=100000) (g:Nat) (i:Nat) (m:Md) (hm:ML[i]?=some m) (ms:List ByteArray) (hs T:List Hj) (ws:List Int) (hfi:FL[i]?=some hs.length) (hws:ws.length<=1000)
  (w:World) (ct:Nat->Nat) (N:List Nj) (h160:N.length<=160) (hJ:Jp w0 w g ct (mO ms (hs ++ phJ i m.ru ++ T) ws FL) (.slice mo ML.length mc) 0 N none) :
  Calls Tryz.prog 53 #[.pointer (some ⟨g,0,none⟩),.int .i64 (i:Int)] w fun e w'=>AmE w0 w' g (.slice mo ML.length mc) ms T FL e (amF (fun k=>uS ML FL i k 53) i m N hs ws):=by
 have hi5:i < ML.length:=(aS.1 hm).1;have HPU:=aH (fun (ru:Int) (rows:Rw) (hr:rows 5=(FL.length,lD FL)) (x:Ex) (ko:Option Addr) (kc:Nat) (hx:Fw 53 x) (hk:aV w0 53 ko x.kids) (W:World) (ct:Nat->Nat) (N:List Nj) (hN:N.length<=160) (hJ:Jp w0 W g ct rows (.slice mo ML.length mc) 0 N none)=>padd_any ML FL mo mc w0 D0 hM hfew hmx hFL (fun x hx=>by have:=hFb x hx;omega) g i (by omega) ru rows hr 0 53 x ko kc hx hk W ct N hN hJ);have HPF:=aH (fun (ru:Int) (x:Ex) (N:List Nj) (hN:N.length<=160)=>putN_few ML FL i ru 53 x N hN);obtain ⟨P,hP⟩:∃ P:Int->Ex->List Nj->Pt,P=fun k=>uS ML FL i k 53:=⟨_,rfl⟩;have HPE:=aH (fun (k:Int) (x:Ex) (N:List Nj)=>show uS ML FL i k 53 x N=P k x N from by rw [hP]);rw [<- hP];obtain ⟨RES,hRES⟩:∃ r,amF P i m N hs ws=r:=⟨_,rfl⟩
 have HRS:=aH (show RES=(match waF P m N with
  | (N1,some f,_)=>(some f,N1,hs,ws)
  | (N1,none,wt)=>match ruF P i m.ru 0 N1 hs with
   | (N2,F,H)=>(F,N2,H,ws ++ [wt])) from by rw [<- hRES];rfl)
 rw [hRES];obtain ⟨nn,hMr⟩:=hM;obtain ⟨mb,moff,io,ic,ko,kc,ro,rc,hmo,hmb,-,d0,d1,d2,d3,d4,d5,d6,d7,d8,d9,dA,-,hke,hru⟩:=hMr i m hm;have HOM:=aH (hok m (aM hm));have HRU:=aH hru;have HKE:=aH (show aV w0 53 ko m.wa.kids from aV.fit HOM.o.1.wa.2 hke.hask);obtain ⟨nm,hnm⟩:∃ n,ML.length=n:=⟨_,rfl⟩;have HFL:=aH (show FL.length=nm from hFL.trans hnm);have HFI:=aH hfi;have hfb:hs.length<=100000:=hFb _ (aM hfi);obtain ⟨fi,hfi2⟩:∃ z,hs.length=z:=⟨_,rfl⟩;have HHL:=aH hfi2;rw [hfi2] at HFI hfb;rw [hnm] at HPU hJ hi5 h5;rw [hnm];have hw0:Below w0.heap.size w0 w:=by obtain ⟨v,Z,h1,-,-⟩:=hJ;exact h1.bl
 have e0:=aC d0 hw0;have e1:=aC d1 hw0;have e2:=aC d2 hw0;have e3:=aC d3 hw0;have e4:=aC d4 hw0;have e5:=aC d5 hw0;have e6:=aC d6 hw0;have e7:=aC d7 hw0;have e8:=aC d8 hw0;have e9:=aC d9 hw0;have eA:=aC dA hw0;have hmb2:mb < w.heap.size:=aL hmb hw0.size;have hic0:decide ((i:Int) < (nm:Int))=true:=aT (by omega);have hic1:decide (i < nm)=true:=aT hi5;have c0:w.cell? ⟨g,0,none⟩=some (.slice mo nm mc):=by obtain ⟨v,Z,h1,-,-⟩:=hJ;exact h1.own.cell 0
 have hgl:g < w.heap.size:=by obtain ⟨v,Z,h1,-,-⟩:=hJ;exact h1.own.lt
 have HCA:=aH (show ct w.heap.size=0/\¬ w.heap.size=g from by
  obtain ⟨v,Z,h1,-,-⟩:=hJ;refine ⟨?_,fun e=>by omega⟩;by_cases e:ct w.heap.size=0
  · exact e
  · have:=(h1.dom _ e).2;omega)
 have HBX:=aH (show Below w.heap.size w (w.alloc (.cells #[.string m.nm,.slice io m.im.length ic,.bool m.wet,.int .i64 m.wa.op,.string m.wa.text,.int .u64 m.wa.s0,.int .u64 m.wa.s1,.int .u64 m.wa.s2,.int .u64 m.wa.s3,.slice ko m.wa.kids.length kc,.slice ro m.ru.length rc] 35)) from bA _);have HX1:=aH (Own.fresh w 35 [.string m.nm,.slice io m.im.length ic,.bool m.wet,.int .i64 m.wa.op,.string m.wa.text,.int .u64 m.wa.s0,.int .u64 m.wa.s1,.int .u64 m.wa.s2,.int .u64 m.wa.s3,.slice ko m.wa.kids.length kc,.slice ro m.ru.length rc]);have HJ1:=aH (hJ.below HBX.o);have HWS:=aH hws;have H160:=aH h160;subst hmo;clear hMr hm hfew hmx hok hFL hFb hfi hP hRES hru hke d0 d1 d2 d3 d4 d5 d6 d7 d8 d9 dA hmb hJ hw0 hnm hfi2 hws h160;go_enter Tryz.func53,Tryz.ntmps53;go_upto_region 2 with fail;clear e0 e1 e2 e3 e4 e5 e6 e7 e8 e9 eA hmb2 c0 hgl;obtain ⟨A,hA⟩:∃ A,w.heap.size=A:=⟨_,rfl⟩;generalize hw2:w.alloc (.cells #[.string m.nm,.slice io m.im.length ic,.bool m.wet,.int .i64 m.wa.op,.string m.wa.text,.int .u64 m.wa.s0,.int .u64 m.wa.s1,.int .u64 m.wa.s2,.int .u64 m.wa.s3,.slice ko m.wa.kids.length kc,.slice ro m.ru.length rc] 35)=w1 at *;clear hw2;rw [hA] at HX1 HCA;try rw [hA]
 clear hA;obtain ⟨wet,hwet⟩:∃ z,m.wet=z:=⟨_,rfl⟩;have HWET:=aH hwet;have x2:=HX1.o.cell 2;have xl:=HX1.o.lt;rw [hwet] at x2;clear hwet
 go_upto_if 21 with fail
 clear x2 xl
 go_cut [6] (fun v6 wx=>∃ (N1:List Nj) (wt:Int) (c1:Nat->Nat),v6=.int .i64 wt/\aQ (waF P m N=(N1,none,wt))/\aQ (N1.length<=160)/\aQ (Jp w0 wx g c1 (mO ms (hs ++ phJ i m.ru ++ T) ws FL) (.slice (some ⟨mb,moff,none⟩) nm mc) 0 N1 none)/\aQ (Own wx A 35 [.string m.nm,.slice io m.im.length ic,.bool m.wet,.int .i64 m.wa.op,.string m.wa.text,.int .u64 m.wa.s0,.int .u64 m.wa.s1,.int .u64 m.wa.s2,.int .u64 m.wa.s3,.slice ko m.wa.kids.length kc,.slice ro m.ru.length rc])/\aQ (c1 A=0))
 case first =>
  obtain ⟨x0,x1,x2,x3,x4,x5,x6,x7,x8,x9,xA⟩:=HX1.o.elev;have xl:=HX1.o.lt;have hwet:=HWET.o;rw [hwet] at x2
  cases wet with
  | false =>
   have HE:=aH (show waF P m N=(N,none,-1) from by unfold waF;rw [if_neg (by rw [hwet];simp)]);clear hwet;go_wp2
   go_meet
   exact ⟨N,-1,ct,rfl,HE,H160,HJ1,HX1,aH HCA.o.1⟩
  | true =>
   obtain ⟨⟨N1,F1,n1⟩,hp⟩:∃ r,P (-1) m.wa N=r:=⟨_,rfl⟩;have HE:=aH (show waF P m N=(N1,F1,(n1:Int)) from by unfold waF;rw [if_pos hwet,hp]);have hlen:=HPF.o (-1) m.wa N H160.o;have HPC:=aH (HPU.o (-1) (mO ms (hs ++ phJ i m.ru ++ T) ws FL) rfl m.wa ko kc ⟨HOM.o.1.wa.2,HOM.o.1.wa.1⟩ HKE.o w1 ct N H160.o HJ1.o);rw [HPE.o,hp] at HPC hlen;unfold exv at HPC;have HLEN:=aH (show N1.length<=160 from hlen);clear hwet hp hlen;go_wp2_with fail;refine HPC.o.mono ?_;rintro e w4 ⟨c4,N4,hJ4,hb4,ha4,hans⟩;have HJ4:=aH hJ4;have HC4:=aH (show c4 A=0 from (ha4 A HX1.o.lt).trans HCA.o.1)
   have HX4:=aH (HX1.o.but hb4 (fun h=>by
    rcases h with h | h
    · exact HCA.o.2 h
    · have:=HCA.o.1;omega))
   clear hJ4 hb4 ha4 HPC x0 x1 x2 x3 x4 x5 x6 x7 x8 x9 xA xl
   cases F1 with
   | some f =>
    have hans:e=.returned (.tuple #[.int .i64 0,.bool false]):=hans;subst hans;have HV:=aH (show RES=(some f,N1,hs,ws) from by rw [HRS.o,HE.o]);go_wp2;go_ret;rw [HV.o];exact ⟨rfl,c4,_,N4,HJ4.o⟩
   | none =>
    obtain ⟨hans,rfl⟩:e=.returned (.tuple #[.int .i64 (n1:Int),.bool true])/\N4=N1:=hans;subst hans;go_wp2
    go_meet
    exact ⟨N4,(n1:Int),c4,rfl,HE,HLEN,HJ4,HX4,HC4⟩
 case rest =>
  obtain ⟨N1,wt,c2,rfl,HWA,HN1,HJ2,HX2,HC2⟩:=hcut;have HAG:=aH HCA.o.2;clear HJ1 HX1 HCA HBX H160;have HRS2:=aH (show RES=((ruF P i m.ru 0 N1 hs).2.1,(ruF P i m.ru 0 N1 hs).1,(ruF P i m.ru 0 N1 hs).2.2,ws ++ [wt]) from by rw [HRS.o,HWA.o]);obtain ⟨v,Z,hW,hZ,hK⟩:=HJ2.o;have HW:=aH hW;have HZ:=aH hZ;have HK:=aH hK
  have HW4:=aH (show Win (fun b=>c2 b=4) 3 1 wc (v 4) ws.length (ws.map (Value.int .i64)) from by
   have q:=hW.win 4 (by omega) (by omega)
   rw [iB _ _ (by decide)] at q;exact q)
  have hO:Own wc g 68 [.slice (some ⟨mb,moff,none⟩) nm mc,v 5,v 1,v 2,v 3,v 4,.int .i64 0,.int .i64 0,.int .i64 0,.int .i64 0,.int .i64 0]:=hW.own;obtain ⟨n4,hn4⟩:∃ z,ws.length=z:=⟨_,rfl⟩;obtain ⟨X4,hX4⟩:∃ z,ws.map (Value.int .i64)=z:=⟨_,rfl⟩;rw [hn4,hX4] at HW4;have HNX:=aH (And.intro hn4 hX4);have hn49:n4<=1000:=by rw [<- hn4];exact HWS.o
  obtain ⟨o4,k4,hv4,-,-,-⟩:=HW4.o.form;rw [hv4] at HW4 hO;have HO:=aH hO;have c5:wc.cell? ⟨g,5,none⟩=some (.slice o4 n4 k4):=hO.cell 5;have hgl:=hO.lt;have NP4:=aH (show ¬ c2 g=4 from by rw [hW.cg];omega);obtain ⟨i0,hi0,hz0,hz1,hz2⟩:=cZ gL;have HNEW:=aH (fun W=>bD W 3 [.int .i64 wt]);clear hn4 hX4 hv4 hW hZ hK hO
  go_wp2_with (first
   | (at_builtin;refine aX _ rfl _ _ 39 rfl (fun b=>c2 b=4) 3 i0 _ 1 8 Tryz.underlying39 hi0 hz0 hz1 hz2 rfl (by decide) _ n4 X4 rfl (HW4.o.below (bA _)) ⟨wc.heap.size,0,none⟩ 1 1 [.int .i64 wt] rfl rfl (HNEW.o wc) (by intro u hu;rw [List.mem_singleton.1 hu];rfl) (by unfold maxLen;omega) (by omega) ?_))
  intro v' w5 hw5 hb5;have hblx:Below wc.heap.size wc (wc.alloc (.cells #[.int .i64 wt] 3)):=bA _;obtain ⟨vb,voff,vcap,rfl,hvg,hvle,hvlt⟩:=hw5.has (by omega);have hO5:=(HO.o.under hblx HO.o.lt).but hb5 NP4.o;have q1:=hO5.cell 5;have q2:=hO5.thaw 5;have q3:=hO5.lt;have hX5:=(HX2.o.under hblx HX2.o.lt).but hb5 (fun h=>by have h:c2 A=4:=h;have:=HC2.o;omega);have HX5:=aH (hX5.but (But.put w5 g 5 (.slice (some ⟨vb,voff,none⟩) (n4 + 1) vcap)) HAG.o)
  have HJ5:=aH (show Jp w0 (w5.setCell ⟨g,5,none⟩ (.slice (some ⟨vb,voff,none⟩) (n4 + 1) vcap)) g (Qj c2 (wc.alloc (.cells #[.int .i64 wt] 3)) w5 4) (mO ms (hs ++ phJ i (m.ru.drop 0) ++ T) (ws ++ [wt]) FL) (.slice (some ⟨mb,moff,none⟩) nm mc) 0 N1 none from Jp.grown (rows':=mO ms (hs ++ phJ i m.ru ++ T) (ws ++ [wt]) FL) (i:=4) (m:=1) (news:=[.int .i64 wt]) HW.o HZ.o HK.o hblx (by omega) (by omega) (by omega) (by
   show Win (fun b=>c2 b=4\/(wc.alloc (.cells #[.int .i64 wt] 3)).heap.size<=b) 3 1 w5 (.slice (some ⟨vb,voff,none⟩) (n4 + 1) vcap) (ws.length + 1) (ws.map (Value.int .i64) ++ [.int .i64 wt]);rw [HNX.o.1,HNX.o.2]
   exact hw5.mono (fun j _ h=>by
    rcases h with h | h
    · exact .inl h
    · exact .inr (by simpa using h))) hb5 (B6T ms (hs ++ phJ i m.ru ++ T) ws FL wt))
  clear hO5 hX5 hw5 hvg hvle hblx c5 hgl HW4 HO NP4 HNX hn49 HW HZ HK HJ2 hb5 HX2 HC2;go_upto_region 8 with fail;generalize Qj c2 (wc.alloc (.cells #[.int .i64 wt] 3)) w5 4=c5 at *;generalize w5.setCell ⟨g,5,none⟩ (.slice (some ⟨vb,voff,none⟩) (n4 + 1) vcap)=w6 at *;clear q1 q2 q3 hvlt HNEW hi0 hz0 hz1 hz2;obtain ⟨RU,hRU⟩:∃ r,ruF P i m.ru 0 N1 hs=r:=⟨_,rfl⟩;have HV:=aH (show RES=(RU.2.1,RU.1,RU.2.2,ws ++ [wt]) from by rw [HRS2.o,hRU]);have HQ0:=aH (show UP P i m.ru RU 0 N1 hs none from by rw [<- hRU];rfl);obtain ⟨nr,hnr⟩:∃ z,m.ru.length=z:=⟨_,rfl⟩;have HNR:=aH hnr;have hnr24:nr<=24:=by rw [<- hnr];exact HOM.o.2.2
  have HL0:=aH (show hs.length=fi + 0 from HHL.o);have xA:=HX5.o.cell 10;have xl:=HX5.o.lt;rw [hnr] at xA;clear hRU hnr HRS HRS2;go_wp2_with fail;clear xA xl HX5
  go_loopw [48] (fun v48 wr=>∃ (k:Nat) (Nk:List Nj) (Hk:List Hj) (ck:Nat->Nat),v48=.int .i64 (k:Int)/\(k:Int)<=nr/\aQ (UP P i m.ru RU k Nk Hk none)/\aQ (Jp w0 wr g ck (mO ms (Hk ++ phJ i (m.ru.drop k) ++ T) (ws ++ [wt]) FL) (.slice (some ⟨mb,moff,none⟩) nm mc) 0 Nk none)/\aQ (Hk.length=fi + k)/\aQ (Nk.length<=160)) (fun v48 _=>nr - (intOf v48).toNat)
  case atStart=>exact ⟨0,N1,hs,c5,rfl,by omega,HQ0,HJ5,HL0,HN1⟩
  case round =>
   obtain ⟨k,Nk,Hk,ck,rfl,hk,HQ,HJ,HHK,HNK⟩:=hrel;clear HQ0 HJ5 HL0 HN1;by_cases hkn:(k:Int) < nr
   ·
    have hkn1:decide ((k:Int) < nr)=true:=aT hkn;have hkn2:decide (k < nr)=true:=aT (by omega);obtain ⟨r,hr⟩:∃ r,m.ru[k]?=some r:=⟨_,aG (by have:=HNR.o;omega)⟩;obtain ⟨rb,roff,yo,yc,hro,hrb,_,d0,d1,d2,d3,d4,d5,d6,d7,hky⟩:=HRU.o k r hr;have hmem:=aM hr;have HFW:=aH (show Fw 53 r.2 from ⟨(HOM.o.1.bo r hmem).2,(HOM.o.1.bo r hmem).1⟩);have HKY:=aH (show aV w0 53 yo r.2.kids from aV.fit HFW.o.1 hky.hask)
    have HDR:=aH (show Hk ++ phJ i (m.ru.drop k) ++ T=Hk ++ ⟨i,r.1,0⟩ :: (phJ i (m.ru.drop (k + 1)) ++ T) from by
     obtain ⟨h1,h2⟩:=aS.1 hr
     rw [List.drop_eq_getElem_cons h1,h2,List.append_assoc];rfl)
    have hbl:Below w0.heap.size w0 wr:=(by obtain ⟨v,Z,h1,-,-⟩:=HJ.o;exact h1.bl);have e0:=aC d0 hbl;have e1:=aC d1 hbl;have e2:=aC d2 hbl;have e3:=aC d3 hbl;have e4:=aC d4 hbl;have e5:=aC d5 hbl;have e6:=aC d6 hbl;have e7:=aC d7 hbl;have hrb2:rb < wr.heap.size:=aL hrb hbl.size;obtain ⟨⟨N2,F1,n1⟩,hp⟩:∃ z,P (k:Int) r.2 Nk=z:=⟨_,rfl⟩;have HQ1:=aH (show UP P i m.ru RU (k + 1) N2 (Hk ++ [⟨i,r.1,n1⟩]) F1 from HQ.o.step hr hp);have HBX:=aH (show Below wr.heap.size wr (wr.alloc (.cells #[.string r.1,.int .i64 r.2.op,.string r.2.text,.int .u64 r.2.s0,.int .u64 r.2.s1,.int .u64 r.2.s2,.int .u64 r.2.s3,.slice yo r.2.kids.length yc] 51)) from bA _);have HX:=aH (Own.fresh wr 51 [.string r.1,.int .i64 r.2.op,.string r.2.text,.int .u64 r.2.s0,.int .u64 r.2.s1,.int .u64 r.2.s2,.int .u64 r.2.s3,.slice yo r.2.kids.length yc]);have HJX:=aH (HJ.o.below HBX.o);rw [HDR.o] at HJX;have hlen:=HPF.o (k:Int) r.2 Nk HNK.o;have HPC:=aH (HPU.o (k:Int) (mO ms (Hk ++ ⟨i,r.1,0⟩ :: (phJ i (m.ru.drop (k + 1)) ++ T)) (ws ++ [wt]) FL) rfl r.2 yo yc HFW.o HKY.o (wr.alloc (.cells #[.string r.1,.int .i64 r.2.op,.string r.2.text,.int .u64 r.2.s0,.int .u64 r.2.s1,.int .u64 r.2.s2,.int .u64 r.2.s3,.slice yo r.2.kids.length yc] 51)) ck Nk HNK.o HJX.o);rw [HPE.o,hp] at HPC hlen;unfold exv at HPC;have HLEN:=aH (show N2.length<=160 from hlen);have hw1:IntKind.i64.wrap ((k:Int) + 1)=(k:Int) + 1:=wI;subst hro;clear hr d0 d1 d2 d3 d4 d5 d6 d7 hky hrb hmem hbl hp hlen HJX HQ;go_upto_region 11 with fail;clear e0 e1 e2 e3 e4 e5 e6 e7 hrb2;obtain ⟨A2,hA2⟩:∃ A,wr.heap.size=A:=⟨_,rfl⟩;generalize hw2:wr.alloc (.cells #[.string r.1,.int .i64 r.2.op,.string r.2.text,.int .u64 r.2.s0,.int .u64 r.2.s1,.int .u64 r.2.s2,.int .u64 r.2.s3,.slice yo r.2.kids.length yc] 51)=wy at *;clear hw2;rw [hA2] at HX;try rw [hA2]
    clear hA2;have x1:=HX.o.cell 1;have x2:=HX.o.cell 2;have x3:=HX.o.cell 3;have x4:=HX.o.cell 4;have x5:=HX.o.cell 5;have x6:=HX.o.cell 6;have x7:=HX.o.cell 7;have xl:=HX.o.lt;go_wp2_with fail;refine HPC.o.mono ?_;rintro e w4 ⟨c4,N4,hJ4,hb4,ha4,hans⟩;have HJ4:=aH hJ4;clear hJ4 hb4 ha4 HPC x1 x2 x3 x4 x5 x6 x7 xl HX HBX
    cases F1 with
    | some f =>
     have hans:e=.returned (.tuple #[.int .i64 0,.bool false]):=hans;subst hans;have HE:=aH (show RES=(some f,N2,Hk ++ [⟨i,r.1,n1⟩],ws ++ [wt]) from by rw [HV.o,show RU=(N2,some f,Hk ++ [⟨i,r.1,n1⟩]) from HQ1.o]);go_wp2;go_ret;rw [HE.o];exact ⟨rfl,c4,_,N4,HJ4.o⟩
    | none =>
     obtain ⟨hans,rfl⟩:e=.returned (.tuple #[.int .i64 (n1:Int),.bool true])/\N4=N2:=hans;subst hans;have HJ4:=aH (show Jp w0 w4 g c4 (mO ms (Hk ++ ⟨i,r.1,0⟩ :: (phJ i (m.ru.drop (k + 1)) ++ T)) (ws ++ [wt]) FL) (.slice (some ⟨mb,moff,none⟩) nm mc) 0 N4 none from HJ4.o);obtain ⟨qb,qoff,qcap,c4',hqb,hcell,hfr,hJ9⟩:=HJ4.o.sethead n1;have HJ9:=aH hJ9;obtain ⟨L,hL⟩:∃ L,(Hk ++ ⟨i,r.1,0⟩ :: (phJ i (m.ru.drop (k + 1)) ++ T)).length=L:=⟨_,rfl⟩;obtain ⟨q,hq⟩:∃ q,fi + k=q:=⟨_,rfl⟩;have hHk:Hk.length=q:=HHK.o.trans hq;have hqL:q < L:=(by rw [<- hL,<- hHk,List.length_append,List.length_cons];omega);rw [hL] at c4';rw [hHk] at hcell hfr HJ9;obtain ⟨c1,hgl,fb,foff,fc,f0,hfb2⟩:w4.cell? ⟨g,1,none⟩=w4.cell? ⟨g,1,none⟩/\g < w4.heap.size/\∃ fb foff fc,w4.cell? ⟨fb,foff + i,none⟩=some (.int .i64 (fi:Int))/\w4.cell? ⟨g,1,none⟩=some (.slice (some ⟨fb,foff,none⟩) nm fc)/\fb < w4.heap.size:=(by obtain ⟨v,Z,hW,-,-⟩:=HJ4.o;have HWF:Win (fun b=>c4 b=5) 3 1 w4 (v 5) FL.length (lD FL):=(by have q:=hW.win 5 (by omega) (by omega);rw [iB _ _ (by decide)] at q;exact q);obtain ⟨fo,fc,hv5,-,-,-⟩:=HWF.form;rw [hv5] at HWF;obtain ⟨fb,foff,hfo,hfl,-,f0⟩:=Tq HWF i fi HFI.o;refine ⟨rfl,hW.own.lt,fb,foff,fc,f0,?_,hfl⟩;have q:w4.cell? ⟨g,1,none⟩=some (v 5):=hW.own.cell 1;rw [q,hv5,hfo,HFL.o]);obtain ⟨c1',hfbl⟩:=hfb2;have hwr:IntKind.i64.wrap ((fi:Int) + (k:Int))=(q:Int):=(by have:=IntKind.wrap_i64 ((fi:Int) + (k:Int));omega);have hqi:decide ((q:Int) < (L:Int))=true:=aT (by omega);have hqin:decide (q < L)=true:=aT hqL;have HH1:=aH (show (Hk ++ [(⟨i,r.1,n1⟩:Hj)]).length=fi + (k + 1) from by rw [List.length_append,HHK.o];rfl);have HDR1:=aH (show Hk ++ (⟨i,r.1,n1⟩:Hj) :: (phJ i (m.ru.drop (k + 1)) ++ T)=Hk ++ [⟨i,r.1,n1⟩] ++ phJ i (m.ru.drop (k + 1)) ++ T from by simp);rw [HDR1.o] at HJ9;clear hJ9 hL hq hHk c1 HJ HDR HDR1 HHK HNK HJ4;go_wp2_with fail;go_region;have HJA:=aH (HJ9.o.below (Below.refl _ _).drew);clear c4' hcell hfr c1' f0 hqb hgl hfbl;go_wp2
     go_roundw
     case rel=>exact ⟨k + 1,N4,Hk ++ [⟨i,r.1,n1⟩],c4,by go_num,by omega,HQ1,HJA,HH1,HLEN⟩
     case measure=>simp [intOf];omega
   ·
    have hkn1:decide ((k:Int) < nr)=false:=aF hkn;have hkn2:decide (k < nr)=false:=aF (by omega);have HE:=aH (show RES=(none,Nk,Hk,ws ++ [wt]) from by rw [HV.o,show RU=(Nk,none,Hk) from HQ.o.done (by have:=HNR.o;omega)])
    have HJE:=aH (show Jp w0 wr g ck (mO ms (Hk ++ T) (ws ++ [wt]) FL) (.slice (some ⟨mb,moff,none⟩) nm mc) 0 Nk none from by
     have q:=HJ.o;rw [List.drop_eq_nil_of_le (by have:=HNR.o;omega),show phJ i []=[] from rfl,List.append_nil] at q
     exact q)
    go_wp2;go_ret;rw [HE.o];exact ⟨rfl,HNK.o,ck,HJE.o⟩
end Go.Proofs.YthkdnehgamefiaaGreat
