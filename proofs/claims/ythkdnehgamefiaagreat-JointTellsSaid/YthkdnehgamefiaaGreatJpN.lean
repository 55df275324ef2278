import Derived.Test.YthkdnehgamefiaaGreatJpM
namespace Go.Proofs.YthkdnehgamefiaaGreat
set_option linter.unusedVariables false
open Go.RowKit Go.Sort
@[go_sem 2000] theorem hbuildp (m:Int) (t:ByteArray) (w:World):(Instr.build 64 #[(0,.int .i64 m),(1,.string t)]).run Tryz.prog w=.ok (.agg #[.int .i64 m,.string t,.int .i64 0]) w:=run_build w _ _ _ (by kernel_rfl)
def h0J:List Md->Nat->List Hj
 | [],_=>[]
 | m :: r,i=>phJ i m.ru ++ h0J r (i + 1)
theorem rowsJ_5 (ms:List ByteArray) (hs:List Hj) (ws:List Int) (FL:List Nat) (x:Nat):∀ k,upd (mO ms hs ws FL) 5 ((mO ms hs ws FL 5).1 + 1,(mO ms hs ws FL 5).2 ++ [Value.int .i64 (x:Int)]) k=mO ms hs ws (FL ++ [x]) k
 | 0=>rfl
 | 1=>rfl
 | 2=>rfl
 | 3=>rfl
 | 4=>rfl
 | 5=>by rw [upd_same];show (FL.length + 1,lD FL ++ [Value.int .i64 (x:Int)])=((FL ++ [x]).length,lD (FL ++ [x]));unfold lD;simp
 | k + 6=>rfl
theorem ruF_len {P:Int->Ex->List Nj->Pt} {i:Nat}:∀ {l:List (ByteArray × Ex)} {k:Nat} {N N2:List Nj} {hs H:List Hj},ruF P i l k N hs=(N2,none,H)->H.length=hs.length + l.length
 | [],k,N,N2,hs,H,h=>by
  unfold ruF at h
  cases h
  rfl
 | r :: l,k,N,N2,hs,H,h=>by
  unfold ruF at h
  cases hp:P (k:Int) r.2 N with
  | mk N1 q =>
   obtain ⟨F1,n1⟩:=q;rw [hp] at h
   cases F1 with
   | some f=>simp at h
   | none =>
    have e:=ruF_len (l:=l) h;rw [e,List.length_append,List.length_cons];simp;omega
theorem amF_len {P:Int->Ex->List Nj->Pt} {i:Nat} {m:Md} {N N2:List Nj} {hs H:List Hj} {ws W:List Int} (h:amF P i m N hs ws=(none,N2,H,W)):H.length=hs.length + m.ru.length/\W.length=ws.length + 1:=by
 unfold amF at h;rcases hw:waF P m N with ⟨N1,F1,wt⟩;rw [hw] at h
 cases F1 with
 | some f=>simp at h
 | none =>
  rcases hr:ruF P i m.ru 0 N1 hs with ⟨Na,Fa,Ha⟩;simp only [hr,Prod.mk.injEq] at h;obtain ⟨h1,h2,h3,h4⟩:=h;subst h1 h2 h3 h4;exact ⟨ruF_len hr,by simp⟩
theorem mdF_step (P:Nat->Int->Ex->List Nj->Pt) (m:Md) (r:List Md) (i:Nat) (s:Sj) {F:Option Ft3} {N2:List Nj} {H:List Hj} {W:List Int} (h:amF (P i) i m s.ns s.hs s.ws=(F,N2,H,W)) :
  match F with
  | some f=>(mdF P (m :: r) i s).2=some f
  | none=>mdF P (m :: r) i s=mdF P r (i + 1) ⟨s.ms ++ [m.nm],N2,H,W⟩:=by
 unfold amF at h;rcases hw:waF (P i) m s.ns with ⟨N1,F1,wt⟩;rw [hw] at h
 cases F1 with
 | some f =>
  simp only [Prod.mk.injEq] at h;obtain ⟨h1,h2,h3,h4⟩:=h;subst h1;show (mdF P (m :: r) i s).2=some f;unfold mdF;rw [hw]
 | none =>
  rcases hr:ruF (P i) i m.ru 0 N1 s.hs with ⟨Na,Fa,Ha⟩;simp only [hr,Prod.mk.injEq] at h;obtain ⟨h1,h2,h3,h4⟩:=h;subst h1 h2 h3 h4
  cases Fa with
  | some f =>
   show (mdF P (m :: r) i s).2=some f;unfold mdF;simp only [hw,hr]
  | none =>
   show mdF P (m :: r) i s=_
   conv=>lhs;unfold mdF
   simp only [hw,hr]
def AlE (w0 w':World) (g:Nat) (lv:Value) (FL:List Nat) (e:Ending):Sj × Option Ft3->Prop
 | (_,some f)=>e=.returned (.bool false)/\∃ (c:Nat->Nat) (rows:Rw) (N:List Nj),Jp w0 w' g c rows lv 0 N (some f)
 | (s,none)=>e=.returned (.bool true)/\∃ c:Nat->Nat,Jp w0 w' g c (mO s.ms s.hs s.ws FL) lv 0 s.ns none
set_option maxRecDepth 1000000 in
set_option maxHeartbeats 12800000 in
theorem pall_any (ML:List Md) (mo:Option Addr) (mc:Nat) (w0:World) (D0:Nat) (hM:fK w0 D0 mo ML) (hfew:Few ML) (hmx:Mx w0) (hok:∀ m ∈ ML,Okm m) (h5:ML.length<=8) (g:Nat) (w:World) (ct:Nat->Nat) (v:Nat->Value) (h:Wp w0 w g ct (mO [] [] [] []) v (.slice mo ML.length mc) 0 none) :
  Calls Tryz.prog 24 #[.pointer (some ⟨g,0,none⟩)] w fun e w'=>AlE w0 w' g (.slice mo ML.length mc) (kU ML 0) e (mdO ML):=by
 have HAM:=aH (fun (i:Nat) (m:Md) (hm:ML[i]?=some m) (hs T:List Hj) (ws:List Int) (hfi:(kU ML 0)[i]?=some hs.length) (hws:ws.length<=1000) (w:World) (ct:Nat->Nat) (N:List Nj) (h160:N.length<=160) (hJ:Jp w0 w g ct (mO (ML.map (·.nm)) (hs ++ phJ i m.ru ++ T) ws (kU ML 0)) (.slice mo ML.length mc) 0 N none) =>
  pmod_any ML (kU ML 0) mo mc w0 D0 hM hfew hmx hok h5 (GI ML 0) (fun x hx=>by have:=A5U ML 0 (fun m hm=>(hok m hm).2.2) x hx;omega) g i m hm (ML.map (·.nm)) hs T ws hfi hws w ct N h160 hJ)
 have HM0:=aH hM;have HOK:=aH hok;obtain ⟨R1,hR1⟩:∃ r,mdO ML=r:=⟨_,rfl⟩;obtain ⟨P,hP⟩:∃ P:Nat->Int->Ex->List Nj->Pt,P=fun i k=>uS ML (kU ML 0) i k 53:=⟨_,rfl⟩;have HAP:=aH (fun i m N hs ws=>show amF (fun k=>uS ML (kU ML 0) i k 53) i m N hs ws=amF (P i) i m N hs ws from by rw [hP]);have HR1:=aH (show R1=mdF P (ML.drop 0) 0 ⟨[],[],[],[]⟩ from by rw [List.drop_zero,<- hR1,hP];rfl);obtain ⟨FL,hFL⟩:∃ r,kU ML 0=r:=⟨_,rfl⟩;have HFF:=aH (show FL=[] ++ kU (ML.drop 0) 0 from by rw [<- hFL,List.drop_zero];rfl);obtain ⟨NS,hNS⟩:∃ r,ML.map (·.nm)=r:=⟨_,rfl⟩;have HNS:=aH hNS;have HFZ:=aH hFL.symm;have HH0:=aH (show h0J ML 0=[] ++ h0J (ML.drop 0) 0 from by rw [List.drop_zero];rfl);obtain ⟨HA0,hH0⟩:∃ r,h0J ML 0=r:=⟨_,rfl⟩;have HHA:=aH hH0;rw [hH0] at HH0;obtain ⟨nm,hnm⟩:∃ n,ML.length=n:=⟨_,rfl⟩;have HNM:=aH hnm;have H0:=aH h;rw [hFL,hNS] at HAM;rw [hFL] at HAP;rw [hnm] at H0 HAM h5;rw [hR1,hFL,hnm];have ho:Own w g 68 [.slice mo nm mc,v 5,v 1,v 2,v 3,v 4,.int .i64 0,.int .i64 0,.int .i64 0,.int .i64 0,.int .i64 0]:=H0.o.own;have c0:=ho.cell 0;have hgl:=ho.lt;clear hM hfew hmx hok h hR1 hP hFL hNS hH0 hnm ho;go_enter Tryz.func24,Tryz.ntmps24;go_wp2_with fail;clear c0 hgl
 go_loopw [13] (fun v13 wr=>∃ (k:Nat) (HS:List Hj) (G:List Nat) (c:Nat->Nat) (v:Nat->Value),v13=.int .i64 (k:Int)/\(k:Int)<=nm/\aQ (Wp w0 wr g c (mO (NS.take k) HS [] G) v (.slice mo nm mc) 0 none)/\aQ (HA0=HS ++ h0J (ML.drop k) k)/\aQ (FL=G ++ kU (ML.drop k) HS.length)/\aQ (HS.length<=24 * k/\k<=8/\G.length=k/\(NS.take k).length=k)) (fun v13 _=>nm - (intOf v13).toNat)
 case atStart=>exact ⟨0,[],[],ct,v,rfl,by omega,H0,HH0,HFF,aH ⟨by simp,by omega,rfl,by simp⟩⟩
 case round =>
  obtain ⟨k,HS,G,c,v,rfl,hk,HW,HH,HF,HLN⟩:=hrel;clear H0 HH0 HFF;by_cases hkn:(k:Int) < nm
  ·
   have hkn1:decide ((k:Int) < nm)=true:=aT hkn;have hkn2:decide (k < nm)=true:=aT (by omega);obtain ⟨m,hm⟩:∃ m,ML[k]?=some m:=⟨_,aG (by have:=HNM.o;omega)⟩;obtain ⟨nn,hMr⟩:=HM0.o;obtain ⟨mb,moff,io,ic,ko,kc,ro,rc,hmo,hmb,-,d0,d1,d2,d3,d4,d5,d6,d7,d8,d9,dA,-,-,hru⟩:=hMr k m hm;have e0:=aC d0 HW.o.bl;have e1:=aC d1 HW.o.bl;have e2:=aC d2 HW.o.bl;have e3:=aC d3 HW.o.bl;have e4:=aC d4 HW.o.bl;have e5:=aC d5 HW.o.bl;have e6:=aC d6 HW.o.bl;have e7:=aC d7 HW.o.bl;have e8:=aC d8 HW.o.bl;have e9:=aC d9 HW.o.bl;have eA:=aC dA HW.o.bl;have hmb2:mb < wr.heap.size:=aL hmb HW.o.bl.size;have HRU:=aH hru;have hm24:=(HOK.o m (aM hm)).2.2;have HM24:=aH hm24
   have HTK:=aH (show NS.take (k + 1)=NS.take k ++ [m.nm] from by
    have q:NS[k]?=some m.nm:=(by rw [<- HNS.o,List.getElem?_map,hm];rfl);obtain ⟨h1,h2⟩:=aS.1 q
    rw [List.take_succ_eq_append_getElem h1,h2])
   have HHS:=aH (show HA0=HS ++ (phJ k (m.ru.drop 0) ++ h0J (ML.drop (k + 1)) (k + 1)) from by
    obtain ⟨h1,h2⟩:=aS.1 hm
    rw [HH.o,List.drop_eq_getElem_cons h1,h2];rfl)
   have HFS:=aH (show FL=(G ++ [HS.length]) ++ kU (ML.drop (k + 1)) (HS.length + m.ru.length) from by
    obtain ⟨h1,h2⟩:=aS.1 hm
    rw [HF.o,List.drop_eq_getElem_cons h1,h2,List.append_assoc];rfl)
   have HBX:=aH (show Below wr.heap.size wr (wr.alloc (.cells #[.string m.nm,.slice io m.im.length ic,.bool m.wet,.int .i64 m.wa.op,.string m.wa.text,.int .u64 m.wa.s0,.int .u64 m.wa.s1,.int .u64 m.wa.s2,.int .u64 m.wa.s3,.slice ko m.wa.kids.length kc,.slice ro m.ru.length rc] 35)) from bA _);have HX0:=aH (Own.fresh wr 35 [.string m.nm,.slice io m.im.length ic,.bool m.wet,.int .i64 m.wa.op,.string m.wa.text,.int .u64 m.wa.s0,.int .u64 m.wa.s1,.int .u64 m.wa.s2,.int .u64 m.wa.s3,.slice ko m.wa.kids.length kc,.slice ro m.ru.length rc]);have HW0:=aH (HW.o.below HBX.o);have hw1:IntKind.i64.wrap ((k:Int) + 1)=(k:Int) + 1:=wI
   have HCA:=aH (show c wr.heap.size=0 from by
    by_cases e:c wr.heap.size=0
    · exact e
    · have:=(HW.o.dom _ e).2;omega)
   have HAG:=aH (show ¬ wr.heap.size=g from fun e=>by have:=HW.o.own.lt;omega);have c0:wr.cell? ⟨g,0,none⟩=some (.slice mo nm mc):=HW.o.own.cell 0;subst hmo;clear hm hMr hru HH HF c0 d0 d1 d2 d3 d4 d5 d6 d7 d8 d9 dA hmb;go_upto_region 4 with fail;clear e0 e1 e2 e3 e4 e5 e6 e7 e8 e9 eA hmb2;clear HW;obtain ⟨A,hA⟩:∃ A,wr.heap.size=A:=⟨_,rfl⟩;have HAS:=aH hA;generalize hw2:wr.alloc (.cells #[.string m.nm,.slice io m.im.length ic,.bool m.wet,.int .i64 m.wa.op,.string m.wa.text,.int .u64 m.wa.s0,.int .u64 m.wa.s1,.int .u64 m.wa.s2,.int .u64 m.wa.s3,.slice ko m.wa.kids.length kc,.slice ro m.ru.length rc] 35)=w1 at *;clear hw2;rw [hA] at HX0 HCA HAG;try rw [hA]
   clear hA;have HW:=HW0;clear HW0;obtain ⟨ho3,hc3,hv3,-,-,-⟩:=(show Win (fun b=>c b=3) 64 3 w1 (v 3) HS.length (HS.flatMap zD) from HW.o.win 3 (by omega) (by omega)).form;obtain ⟨hl,hhl⟩:∃ z,HS.length=z:=⟨_,rfl⟩;have HHL:=aH hhl;have c4:w1.cell? ⟨g,4,none⟩=some (.slice ho3 hl hc3):=(by have q:w1.cell? ⟨g,4,none⟩=some (v 3):=HW.o.own.cell 4;rw [q,hv3,hhl]);clear hv3 hhl;have HWN:=aH (show Win (fun b=>c b=5) 3 1 w1 (v 5) G.length (lD G) from HW.o.win 5 (by omega) (by omega));obtain ⟨n1,hn1⟩:∃ z,G.length=z:=⟨_,rfl⟩;obtain ⟨X1,hX1⟩:∃ z,(lD G)=z:=⟨_,rfl⟩;rw [hn1,hX1] at HWN;have HNX:=aH (And.intro hn1 hX1);have hn19:n1<=1000:=(by have:=HLN.o;omega);obtain ⟨so,sc,hv,-,-,-⟩:=HWN.o.form;have hoc:Own w1 g 68 [.slice (some ⟨mb,moff,none⟩) nm mc,v 5,v 1,v 2,v 3,v 4,.int .i64 0,.int .i64 0,.int .i64 0,.int .i64 0,.int .i64 0]:=HW.o.own;have ca:w1.cell? ⟨g,1,none⟩=some (.slice so n1 sc):=(by have q:=hoc.cell 1;rw [q];exact congrArg some hv);have caa:(w1.alloc (.cells #[.int .i64 (hl:Int)] 3)).cell? ⟨g,1,none⟩=some (.slice so n1 sc):=(by have q:=(hoc.on_alloc (.cells #[.int .i64 (hl:Int)] 3)).cell 1;rw [q];exact congrArg some hv);have hgl:=hoc.lt;rw [hv] at HWN;have HOC:=aH hoc;have NP:=aH (show ¬ c g=5 from by rw [HW.o.cg];omega);obtain ⟨i0,hi,hz0,hz1,hz2⟩:=cZ gL;have IP:=aH (And.intro hi (And.intro hz0 (And.intro hz1 hz2)));clear hi hz0 hz1 hz2 hoc hv hn1 hX1;have K1:n1 + 1<=maxLen:=(by unfold maxLen;omega);have K2:(n1 + 1) * 8<=140737488355328:=(by omega);have FN:=aH (bD w1 3 [.int .i64 (hl:Int)]);have HCEL:=aH (show ∀ u ∈ ([.int .i64 (hl:Int)]:List Value),u.oneCell'=true by intro u hu;simp at hu;rcases hu with rfl | rfl | rfl <;> rfl)
   go_cut [] (fun wx=>∃ (c1:Nat->Nat) (v1:Nat->Value),aQ (Wp w0 wx g c1 (mO (NS.take k) HS [] (G ++ [hl])) v1 (.slice (some ⟨mb,moff,none⟩) nm mc) 0 none)/\aQ (Own wx A 35 [.string m.nm,.slice io m.im.length ic,.bool m.wet,.int .i64 m.wa.op,.string m.wa.text,.int .u64 m.wa.s0,.int .u64 m.wa.s1,.int .u64 m.wa.s2,.int .u64 m.wa.s3,.slice ko m.wa.kids.length kc,.slice ro m.ru.length rc])/\aQ (c1 A=0))
   case first =>
    skip
    go_region_law ((refine dM rfl _ _ 39 rfl (fun b=>c b=5) 3 _ _ 1 8 Tryz.underlying39 IP.o.1 IP.o.2.1 IP.o.2.2.1 IP.o.2.2.2 rfl (by decide) _ n1 X1 rfl (HWN.o.below (bA _).drew) ⟨w1.heap.size,0,none⟩ 1 1 [.int .i64 (hl:Int)] rfl rfl FN.o HCEL.o K1 K2 ?_);intro v' w' hw hb;obtain ⟨vb,voff,vcap,rfl,hg2,hle2,hlt2⟩:=hw.has (by omega);have hO:=aH (((HOC.o.on_alloc (.cells #[.int .i64 (hl:Int)] 3)).on_drew).but hb NP.o);have d2:=hO.o.cell 1;have e2:=hO.o.thaw 1;have gl2:=hO.o.lt;have hw2:=aH hw;have hb2:=aH hb;clear hw hb)
    all_goals
     have HG:=aH (HW.o.grown (i:=5) (m:=1) (news:=[.int .i64 (hl:Int)]) (bA (.cells #[.int .i64 (hl:Int)] 3)).drew (by omega) (by omega) (by show Win _ _ _ _ _ (G.length + 1) ((lD G) ++ [.int .i64 (hl:Int)]);rw [HNX.o.1,HNX.o.2];exact hw2.o) hb2.o);go_wp2
     go_meet
     exact ⟨_,_,aH (HG.o.1.rows_eq (fun kk _ _=>rowsJ_5 (NS.take k) HS [] G hl kk)),aH (HX0.o.but HG.o.2.1 (fun h=>by rcases h with h | h;exact HAG.o h;have h:c A=5:=h;have:=HCA.o;omega)),aH ((HG.o.2.2 _ HX0.o.lt).trans HCA.o)⟩
   case rest =>
    obtain ⟨c1,v1,HW1,HX1,HC1⟩:=hcut;clear HWN HNX HOC NP IP FN HCEL K1 K2 hn19 ca caa c4 hgl HX0 HW HCA;have x0:=HX1.o.cell 0;have x0a:=(HX1.o.on_alloc (.cells #[.string m.nm] 9)).cell 0;have xl:=HX1.o.lt;have HWN:=aH (show Win (fun b=>c1 b=1) 9 1 wc (v1 1) (NS.take k).length ((NS.take k).map Value.string) from HW1.o.win 1 (by omega) (by omega));obtain ⟨n1,hn1⟩:∃ z,(NS.take k).length=z:=⟨_,rfl⟩;obtain ⟨X1,hX1⟩:∃ z,((NS.take k).map Value.string)=z:=⟨_,rfl⟩;rw [hn1,hX1] at HWN;have HNX:=aH (And.intro hn1 hX1);have hn19:n1<=1000:=(by have:=HLN.o;omega);obtain ⟨so,sc,hv,-,-,-⟩:=HWN.o.form;have hoc:Own wc g 68 [.slice (some ⟨mb,moff,none⟩) nm mc,v1 5,v1 1,v1 2,v1 3,v1 4,.int .i64 0,.int .i64 0,.int .i64 0,.int .i64 0,.int .i64 0]:=HW1.o.own;have ca:wc.cell? ⟨g,2,none⟩=some (.slice so n1 sc):=(by have q:=hoc.cell 2;rw [q];exact congrArg some hv);have caa:(wc.alloc (.cells #[.string m.nm] 9)).cell? ⟨g,2,none⟩=some (.slice so n1 sc):=(by have q:=(hoc.on_alloc (.cells #[.string m.nm] 9)).cell 2;rw [q];exact congrArg some hv);have hgl:=hoc.lt;rw [hv] at HWN;have HOC:=aH hoc;have NP:=aH (show ¬ c1 g=1 from by rw [HW1.o.cg];omega);obtain ⟨i0,hi,hz0,hz1,hz2⟩:=cZ uZ;have IP:=aH (And.intro hi (And.intro hz0 (And.intro hz1 hz2)));clear hi hz0 hz1 hz2 hoc hv hn1 hX1;have K1:n1 + 1<=maxLen:=(by unfold maxLen;omega);have K2:(n1 + 1) * 16<=140737488355328:=(by omega);have FN:=aH (bD wc 9 [.string m.nm]);have HCEL:=aH (show ∀ u ∈ ([.string m.nm]:List Value),u.oneCell'=true by intro u hu;simp at hu;rcases hu with rfl | rfl | rfl <;> rfl);go_upto_region 5 with fail
    go_cut [] (fun wx=>∃ (c2:Nat->Nat) (v2:Nat->Value),aQ (Wp w0 wx g c2 (mO (NS.take (k + 1)) HS [] (G ++ [hl])) v2 (.slice (some ⟨mb,moff,none⟩) nm mc) 0 none)/\aQ (Own wx A 35 [.string m.nm,.slice io m.im.length ic,.bool m.wet,.int .i64 m.wa.op,.string m.wa.text,.int .u64 m.wa.s0,.int .u64 m.wa.s1,.int .u64 m.wa.s2,.int .u64 m.wa.s3,.slice ko m.wa.kids.length kc,.slice ro m.ru.length rc])/\aQ (c2 A=0))
    case first =>
     skip
     go_region_law ((refine dM rfl _ _ 22 rfl (fun b=>c1 b=1) 9 _ _ 1 16 Tryz.underlying22 IP.o.1 IP.o.2.1 IP.o.2.2.1 IP.o.2.2.2 rfl (by decide) _ n1 X1 rfl (HWN.o.below (bA _).drew) ⟨wc.heap.size,0,none⟩ 1 1 [.string m.nm] rfl rfl FN.o HCEL.o K1 K2 ?_);intro v' w' hw hb;obtain ⟨vb,voff,vcap,rfl,hg2,hle2,hlt2⟩:=hw.has (by omega);have hO:=aH (((HOC.o.on_alloc (.cells #[.string m.nm] 9)).on_drew).but hb NP.o);have d2:=hO.o.cell 2;have e2:=hO.o.thaw 2;have gl2:=hO.o.lt;have hw2:=aH hw;have hb2:=aH hb;clear hw hb)
     all_goals
      have HG:=aH (HW1.o.grown (i:=1) (m:=1) (news:=[.string m.nm]) (bA (.cells #[.string m.nm] 9)).drew (by omega) (by omega) (by show Win _ _ _ _ _ ((NS.take k).length + 1) (((NS.take k).map Value.string) ++ [.string m.nm]);rw [HNX.o.1,HNX.o.2];exact hw2.o) hb2.o);go_wp2
      go_meet
      exact ⟨_,_,aH (HG.o.1.rows_eq (fun kk _ _=>by rw [HTK.o];exact B6R (NS.take k) HS [] (G ++ [hl]) m.nm kk)),aH (HX1.o.but HG.o.2.1 (fun h=>by rcases h with h | h;exact HAG.o h;have h:c1 A=1:=h;have:=HC1.o;omega)),aH ((HG.o.2.2 _ HX1.o.lt).trans HC1.o)⟩
    case rest =>
     obtain ⟨c2,v2,HW2,HX2,HC2⟩:=hcut;clear HWN HNX HOC NP IP FN HCEL K1 K2 hn19 ca caa hgl HX1 HW1 HC1 x0 x0a xl;have xA:=HX2.o.cell 10;have xl:=HX2.o.lt;obtain ⟨nr,hnr⟩:∃ z,m.ru.length=z:=⟨_,rfl⟩;have HNR:=aH hnr;rw [hnr] at xA HFS hm24;clear hnr;have hhl24:hl<=24 * k/\k<=8:=(by have h1:=HLN.o;have h2:=HHL.o;omega);have HHL24:=aH hhl24;have hj24:=hm24;go_wp2_with fail;clear xA xl hhl24
     go_loopw [49] (fun v49 wr=>∃ (j:Nat) (H2:List Hj) (c:Nat->Nat) (v:Nat->Value),v49=.int .i64 (j:Int)/\(j:Int)<=nr/\aQ (Wp w0 wr g c (mO (NS.take (k + 1)) H2 [] (G ++ [hl])) v (.slice (some ⟨mb,moff,none⟩) nm mc) 0 none)/\aQ (HA0=H2 ++ (phJ k (m.ru.drop j) ++ h0J (ML.drop (k + 1)) (k + 1)))/\aQ (H2.length=hl + j)) (fun v49 _=>nr - (intOf v49).toNat)
     case atStart=>exact ⟨0,HS,c2,v2,rfl,by omega,HW2,HHS,aH (by rw [HHL.o];rfl)⟩
     case round =>
      obtain ⟨j,H2,c,v,rfl,hj,HW,HH,HLH⟩:=hrel;clear HW2 HX2 HC2;by_cases hjn:(j:Int) < nr
      ·
       have hjn1:decide ((j:Int) < nr)=true:=aT hjn;have hjn2:decide (j < nr)=true:=aT (by omega);obtain ⟨r,hr⟩:∃ r,m.ru[j]?=some r:=⟨_,aG (by have:=HNR.o;omega)⟩;obtain ⟨rb,roff,yo,yc,hro,hrb,_,d0,d1,d2,d3,d4,d5,d6,d7,-⟩:=HRU.o j r hr;have e0:=aC d0 HW.o.bl;have e1:=aC d1 HW.o.bl;have e2:=aC d2 HW.o.bl;have e3:=aC d3 HW.o.bl;have e4:=aC d4 HW.o.bl;have e5:=aC d5 HW.o.bl;have e6:=aC d6 HW.o.bl;have e7:=aC d7 HW.o.bl;have hrb2:rb < wr.heap.size:=aL hrb HW.o.bl.size
       have HHN:=aH (show HA0=(H2 ++ [(⟨k,r.1,0⟩:Hj)]) ++ (phJ k (m.ru.drop (j + 1)) ++ h0J (ML.drop (k + 1)) (k + 1)) from by
        obtain ⟨h1,h2⟩:=aS.1 hr
        rw [HH.o,List.drop_eq_getElem_cons h1,h2,List.append_assoc];rfl)
       have HBX2:=aH (show Below wr.heap.size wr (wr.alloc (.cells #[.string r.1,.int .i64 r.2.op,.string r.2.text,.int .u64 r.2.s0,.int .u64 r.2.s1,.int .u64 r.2.s2,.int .u64 r.2.s3,.slice yo r.2.kids.length yc] 51)) from bA _);have HY:=aH (Own.fresh wr 51 [.string r.1,.int .i64 r.2.op,.string r.2.text,.int .u64 r.2.s0,.int .u64 r.2.s1,.int .u64 r.2.s2,.int .u64 r.2.s3,.slice yo r.2.kids.length yc]);have HWY:=aH (HW.o.below HBX2.o);have hw2:IntKind.i64.wrap ((j:Int) + 1)=(j:Int) + 1:=wI;have HLQ:=aH (show H2.length<=900 from by have h1:=HLH.o;have h2:=HHL24.o;omega);subst hro;clear hr d0 d1 d2 d3 d4 d5 d6 d7 hrb HH HW;go_upto_region 9 with fail;clear e0 e1 e2 e3 e4 e5 e6 e7 hrb2;obtain ⟨A2,hA2⟩:∃ A,wr.heap.size=A:=⟨_,rfl⟩;generalize hw3:wr.alloc (.cells #[.string r.1,.int .i64 r.2.op,.string r.2.text,.int .u64 r.2.s0,.int .u64 r.2.s1,.int .u64 r.2.s2,.int .u64 r.2.s3,.slice yo r.2.kids.length yc] 51)=wy at *;clear hw3;rw [hA2] at HY;try rw [hA2]
       clear hA2;have y0:=HY.o.cell 0;have y0a:=(HY.o.on_alloc (.cells #[.int .i64 (k:Int),.string r.1,.int .i64 0] 64)).cell 0;have yl:=HY.o.lt;have HWN:=aH (show Win (fun b=>c b=3) 64 3 wy (v 3) H2.length (H2.flatMap zD) from HWY.o.win 3 (by omega) (by omega));obtain ⟨n1,hn1⟩:∃ z,H2.length=z:=⟨_,rfl⟩;obtain ⟨X1,hX1⟩:∃ z,(H2.flatMap zD)=z:=⟨_,rfl⟩;rw [hn1,hX1] at HWN;have HNX:=aH (And.intro hn1 hX1);have hn19:n1<=1000:=(by have:=HLQ.o;omega);obtain ⟨so,sc,hv,-,-,-⟩:=HWN.o.form;have hoc:Own wy g 68 [.slice (some ⟨mb,moff,none⟩) nm mc,v 5,v 1,v 2,v 3,v 4,.int .i64 0,.int .i64 0,.int .i64 0,.int .i64 0,.int .i64 0]:=HWY.o.own;have ca:wy.cell? ⟨g,4,none⟩=some (.slice so n1 sc):=(by have q:=hoc.cell 4;rw [q];exact congrArg some hv);have caa:(wy.alloc (.cells #[.int .i64 (k:Int),.string r.1,.int .i64 0] 64)).cell? ⟨g,4,none⟩=some (.slice so n1 sc):=(by have q:=(hoc.on_alloc (.cells #[.int .i64 (k:Int),.string r.1,.int .i64 0] 64)).cell 4;rw [q];exact congrArg some hv);have hgl:=hoc.lt;rw [hv] at HWN;have HOC:=aH hoc;have NP:=aH (show ¬ c g=3 from by rw [HWY.o.cg];omega);obtain ⟨i0,hi,hz0,hz1,hz2⟩:=cZ A7P;have IP:=aH (And.intro hi (And.intro hz0 (And.intro hz1 hz2)));clear hi hz0 hz1 hz2 hoc hv hn1 hX1;have K1:n1 + 1<=maxLen:=(by unfold maxLen;omega);have K2:(n1 + 1) * 32<=140737488355328:=(by omega);have FN:=aH (bD wy 64 [.int .i64 (k:Int),.string r.1,.int .i64 0]);have HCEL:=aH (show ∀ u ∈ ([.int .i64 (k:Int),.string r.1,.int .i64 0]:List Value),u.oneCell'=true by intro u hu;simp at hu;rcases hu with rfl | rfl | rfl <;> rfl)
       go_region_law ((refine dM rfl _ _ 38 rfl (fun b=>c b=3) 64 _ _ 3 32 Tryz.underlying38 IP.o.1 IP.o.2.1 IP.o.2.2.1 IP.o.2.2.2 rfl (by decide) _ n1 X1 rfl (HWN.o.below (bA _).drew) ⟨wy.heap.size,0,none⟩ 1 1 [.int .i64 (k:Int),.string r.1,.int .i64 0] rfl rfl FN.o HCEL.o K1 K2 ?_);intro v' w' hw hb;obtain ⟨vb,voff,vcap,rfl,hg2,hle2,hlt2⟩:=hw.has (by omega);have hO:=aH (((HOC.o.on_alloc (.cells #[.int .i64 (k:Int),.string r.1,.int .i64 0] 64)).on_drew).but hb NP.o);have d2:=hO.o.cell 4;have e2:=hO.o.thaw 4;have gl2:=hO.o.lt;have hw2:=aH hw;have hb2:=aH hb;clear hw hb)
       all_goals
        have HG:=aH (HWY.o.grown (i:=3) (m:=1) (news:=[.int .i64 (k:Int),.string r.1,.int .i64 0]) (bA (.cells #[.int .i64 (k:Int),.string r.1,.int .i64 0] 64)).drew (by omega) (by omega) (by show Win _ _ _ _ _ (H2.length + 1) ((H2.flatMap zD) ++ [.int .i64 (k:Int),.string r.1,.int .i64 0]);rw [HNX.o.1,HNX.o.2];exact hw2.o) hb2.o);go_wp2;have HWE:=aH (HG.o.1.rows_eq (rows':=mO (NS.take (k + 1)) (H2 ++ [(⟨k,r.1,0⟩:Hj)]) [] (G ++ [hl])) (fun kk _ _=>B6S (NS.take (k + 1)) H2 [] (G ++ [hl]) (⟨k,r.1,0⟩:Hj) kk))
        go_roundw
        case rel=>exact ⟨j + 1,H2 ++ [(⟨k,r.1,0⟩:Hj)],_,_,by go_num,by omega,HWE,HHN,aH (by rw [List.length_append,HLH.o];rfl)⟩
        case measure=>simp [intOf];omega
      ·
       have hjn1:decide ((j:Int) < nr)=false:=aF hjn;have hjn2:decide (j < nr)=false:=aF (by omega);have HLE:=aH (show H2.length=hl + nr from by have:=HLH.o;omega)
       have HHE:=aH (show HA0=H2 ++ h0J (ML.drop (k + 1)) (k + 1) from by
        have e:m.ru.drop j=[]:=List.drop_eq_nil_of_le (by have:=HNR.o;omega)
        rw [HH.o,e];rfl)
       have HFE:=aH (show FL=(G ++ [hl]) ++ kU (ML.drop (k + 1)) H2.length from by
        rw [HLE.o];have q:=HFS.o;rw [HHL.o] at q
        exact q)
       go_wp2
       go_roundw
       case rel=>exact ⟨k + 1,H2,G ++ [hl],c,v,by go_num,by omega,HW,HHE,HFE,aH (by
        have h1:=HLN.o;have h2:=HHL24.o;have h3:=HLE.o
        refine ⟨by omega,by omega,by rw [List.length_append,h1.2.2.1];rfl,by rw [HTK.o,List.length_append,h1.2.2.2];rfl⟩)⟩
       case measure=>simp [intOf];omega
  ·
   have hkn1:decide ((k:Int) < nm)=false:=aF hkn;have hkn2:decide (k < nm)=false:=aF (by omega);have hdn:ML.drop k=[]:=List.drop_eq_nil_of_le (by have:=HNM.o;omega);have hlk:NS.length=nm:=(by rw [<- HNS.o,List.length_map];exact HNM.o);have HTA:=aH (fun i (h:nm<=i)=>show NS.take i=NS from List.take_of_length_le (by omega))
   have HJ0:=aH (show Jp w0 wr g c (mO NS ([] ++ h0J (ML.drop 0) 0) [] FL) (.slice mo nm mc) 0 [] none from by
    refine ⟨v,[],?_,rfl,fun z hz=>absurd hz List.not_mem_nil⟩;have e1:NS.take k=NS:=HTA.o k (by omega);have e2:HS=h0J ML 0:=(by rw [HHA.o,HH.o,hdn];simp [h0J]);have e3:G=FL:=(by rw [HF.o,hdn];simp [kU]);have q:=HW.o;rw [e1,e2,e3] at q;refine q.rows_eq fun i h1 h5=>?_;obtain rfl | rfl | rfl | rfl | rfl:i=1\/i=2\/i=3\/i=4\/i=5:=by omega
    all_goals rfl)
   have HF0:=aH (show ∃ G:List Nat,FL=G ++ kU (ML.drop 0) ([]:List Hj).length/\G.length=0 from ⟨[],by rw [HFZ.o,List.drop_zero];rfl,rfl⟩);have c0:wr.cell? ⟨g,0,none⟩=some (.slice mo nm mc):=HW.o.own.cell 0;have hgl:=HW.o.own.lt;clear hdn hlk HW HH HF HLN;go_wp2_with fail;clear c0 hgl
   go_loopw [75] (fun v75 wr=>∃ (i:Nat) (s:Sj) (c:Nat->Nat),v75=.int .i64 (i:Int)/\(i:Int)<=nm/\aQ (R1=mdF P (ML.drop i) i s)/\aQ (Jp w0 wr g c (mO NS (s.hs ++ h0J (ML.drop i) i) s.ws FL) (.slice mo nm mc) 0 s.ns none)/\aQ (s.ns.length<=160/\s.ws.length=i/\s.ms=NS.take i)/\aQ (∃ G:List Nat,FL=G ++ kU (ML.drop i) s.hs.length/\G.length=i)) (fun v75 _=>nm - (intOf v75).toNat)
   case atStart=>exact ⟨0,⟨[],[],[],[]⟩,c,rfl,by omega,HR1,HJ0,aH ⟨by simp,rfl,rfl⟩,HF0⟩
   case round =>
    obtain ⟨i,s,c,rfl,hi,HR,HJ,HL,HF⟩:=hrel;clear HJ0 HR1 HF0;by_cases hin:(i:Int) < nm
    ·
     have hin1:decide ((i:Int) < nm)=true:=aT hin;have hin2:decide (i < nm)=true:=aT (by omega);obtain ⟨m,hm⟩:∃ m,ML[i]?=some m:=⟨_,aG (by have:=HNM.o;omega)⟩;have hdr:ML.drop i=m :: ML.drop (i + 1):=(by obtain ⟨h1,h2⟩:=aS.1 hm;rw [List.drop_eq_getElem_cons h1,h2]);have htk:NS.take (i + 1)=NS.take i ++ [m.nm]:=(by have q:NS[i]?=some m.nm:=(by rw [<- HNS.o,List.getElem?_map,hm];rfl);obtain ⟨h1,h2⟩:=aS.1 q;rw [List.take_succ_eq_append_getElem h1,h2]);obtain ⟨G,hG,hGl⟩:=HF.o;rw [hdr] at hG;have hfi:FL[i]?=some s.hs.length:=by rw [hG,List.getElem?_append_right (by omega),hGl,Nat.sub_self];rfl
     have HCC:=aH (HAM.o i m hm s.hs (h0J (ML.drop (i + 1)) (i + 1)) s.ws hfi (by have:=HL.o.2.1;omega) wr c s.ns HL.o.1 (by
      have q:=HJ.o;rw [hdr,show h0J (m :: ML.drop (i + 1)) i=phJ i m.ru ++ h0J (ML.drop (i + 1)) (i + 1) from rfl,<- List.append_assoc] at q
      exact q))
     rw [HAP.o] at HCC;have hw3:IntKind.i64.wrap ((i:Int) + 1)=(i:Int) + 1:=wI;rcases ha:amF (P i) i m s.ns s.hs s.ws with ⟨F,N2,H,W⟩;rw [ha] at HCC;have hst:=mdF_step P m (ML.drop (i + 1)) i s ha;rw [hdr] at HR
     cases F with
     | some f =>
      have HE:=aH (show R1.2=some f from by rw [HR.o];exact hst);clear hst ha hdr htk hfi hG hGl hm;go_wp2_with fail;refine HCC.o.mono ?_;rintro e w4 ⟨rfl,cF,rowsF,NF,hJF⟩;have HJF:=aH hJF;clear hJF HCC;go_wp2;go_ret;obtain ⟨s9,F9⟩:=R1;obtain rfl:F9=some f:=HE.o;exact ⟨rfl,cF,rowsF,NF,HJF.o⟩
     | none =>
      have HRN:=aH (show R1=mdF P (ML.drop (i + 1)) (i + 1) ⟨s.ms ++ [m.nm],N2,H,W⟩ from by rw [HR.o];exact hst);have hlen:=amF_len ha;have HLN2:=aH (show W.length=i + 1/\s.ms ++ [m.nm]=NS.take (i + 1) from ⟨by rw [hlen.2,HL.o.2.1],by rw [htk,HL.o.2.2]⟩);have HFN:=aH (show ∃ G:List Nat,FL=G ++ kU (ML.drop (i + 1)) H.length/\G.length=i + 1 from ⟨G ++ [s.hs.length],by rw [hG,hlen.1,List.append_assoc];rfl,by rw [List.length_append,hGl];rfl⟩);clear hst ha hdr htk hfi hG hGl hm hlen;go_wp2_with fail;refine HCC.o.mono ?_;rintro e w4 ⟨rfl,h160,cF,hJF⟩;have HJF:=aH hJF;have H160:=aH h160;clear hJF HCC h160;go_wp2
      go_roundw
      case rel=>exact ⟨i + 1,⟨s.ms ++ [m.nm],N2,H,W⟩,cF,by go_num,by omega,HRN,HJF,aH ⟨H160.o,HLN2.o.1,HLN2.o.2⟩,HFN⟩
      case measure=>simp [intOf];omega
    ·
     have hin1:decide ((i:Int) < nm)=false:=aF hin;have hin2:decide (i < nm)=false:=aF (by omega);have hdn:ML.drop i=[]:=List.drop_eq_nil_of_le (by have:=HNM.o;omega);have HE:=aH (show R1=(s,none) from by rw [HR.o,hdn];rfl)
     have HJE:=aH (show Jp w0 wr g c (mO s.ms s.hs s.ws FL) (.slice mo nm mc) 0 s.ns none from by
      have q:=HJ.o;rw [hdn,show h0J [] i=[] from rfl,List.append_nil] at q;rw [HL.o.2.2,HTA.o i (by omega)]
      exact q)
     clear hdn;go_wp2;go_ret;rw [HE.o];exact ⟨rfl,c,HJE.o⟩
end Go.Proofs.YthkdnehgamefiaaGreat
