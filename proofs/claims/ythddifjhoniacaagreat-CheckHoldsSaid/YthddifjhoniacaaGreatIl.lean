import Derived.Test.YthddifjhoniacaaGreatMc
import Derived.Test.YthddifjhoniacaaGreatMe
namespace Go.Proofs.YthddifjhoniacaaGreat
set_option linter.unusedVariables false
set_option maxHeartbeats 9600000
set_option maxRecDepth 1000000
open Go.RowKit Go.Sort
def NI (cut:Bool) (NU:Nat->Bool) (L:List Nat):List Nat:=if cut=true then eH NU L else L
theorem A7C {V:Nat->Fst->Fst} {cut:Bool} {NU:Nat->Bool} {L:List Nat} {i q:Nat} {t:Fst} (h:L[i]?=some q):oD V (NI cut NU (L.drop i)) t=if (cut && !NU q)=true then V q t else oD V (NI cut NU (L.drop (i + 1))) (V q t):=by
 obtain ⟨h1,h2⟩:=aS.1 h;rw [List.drop_eq_getElem_cons h1,h2]
 cases cut with
 | false=>simp [NI,oD]
 | true =>
  unfold NI;rw [if_pos rfl,if_pos rfl,eH]
  cases NU q <;> simp [oD]
theorem A9f {V:Nat->Fst->Fst} {cut:Bool} {NU:Nat->Bool} {t:Fst}:oD V (NI cut NU []) t=t:=by cases cut <;> rfl
theorem B8S (o:Int):o=11\/o=9\/o=10\/((o == 11)=false/\(o == 9)=false/\(o == 10)=false):=by simp only [aN];omega
theorem A8Y (gr:Gj) (a:Gv) (hg:Good gr) (E p u l m C d:Nat) (hX:∀ (n:Nat) (s:Fst) (v:Value) (w:World),n < gr.ns.length->bF s.1 gr.ns.length < d->Fd 93 w E p u l m C gr a s v->Calls Tryz.prog 47 #[.pointer (some ⟨p,0,none⟩),.int .i64 (n:Int)] w (FdE 93 w E p u l m C gr a (jI gr d n s)))
  (n:Nat) (s:Fst) (v:Value) (w:World) (hn:n < gr.ns.length) (hd:bF s.1 gr.ns.length < d + 1) (hF:Fd 93 w E p u l m C gr a s v):Calls Tryz.prog 47 #[.pointer (some ⟨p,0,none⟩),.int .i64 (n:Int)] w (FdE 93 w E p u l m C gr a (jI gr (d + 1) n s)):=by
  have HX:=aH hX;clear hX;obtain ⟨x,hx⟩:∃ x,gr.ns[n]?=some x:=⟨_,aG hn⟩;have HXM:=aH hx;have HF0:=aH hF;have HD0:=aH hd;have HGD:=aH hg;have HNN:=aH hn;have hrow:Own w p 93 (wJ gr a u l m v):=hF.own;unfold wJ at hrow;have HOW:=aH hrow;obtain ⟨nn,hnn⟩:∃ z,gr.ns.length=z:=⟨_,rfl⟩;have HLN:=aH hnn;have hn160:nn<=160:=by rw [<- hnn];exact hg.len
  rw [hnn] at hn hrow;have hn1:decide ((n:Int) < (nn:Int))=true:=aT (by omega);have hn2:decide (n < nn)=true:=aT hn;have g7:w.cell? ⟨p,7,none⟩=some (.slice (some ⟨m,0,none⟩) nn nn):=hrow.cell 7;have gl:=hrow.lt;have m0:w.cell? ⟨m,n,none⟩=some (.bool (s.1 n)):=by rw [hF.me.cell n];exact bH s.1 _ n (by rw [hnn];exact hn)
  have ml:=hF.me.lt;obtain ⟨z,hz⟩:∃ z,s.1 n=z:=⟨_,rfl⟩;have HZ:=aH hz;rw [hz] at m0;have HM1:=aH (fun (h:s.1 n=false)=>hF.met (n:=n) HNN.o h);have hfz:w.frozen? ⟨m,n,none⟩=false:=hF.me.thaw n;clear hx hF hd hg hnn hrow hz;go_enter Tryz.func47,Tryz.ntmps47
  cases z with
  | true =>
   have HE:=aH (show jI gr (d + 1) n s=s from by rw [jI];exact if_pos HZ.o);rw [HE.o];go_wp2
   first
    | (go_end0;exact ⟨rfl,⟨v,HF0.o⟩,But.refl _ _⟩)
    | (refine bodyPost_ret (results_none rfl _ _ _) rfl ?_;exact ⟨rfl,⟨v,HF0.o⟩,But.refl _ _⟩)
  | false =>
   have HV:=aH (XU (gr:=gr) (d:=d) HZ.o);have HF1:=aH (HM1.o HZ.o);have HB1:=aH (show But (fun b=>b=p\/b=m) w (w.setCell ⟨m,n,none⟩ (.bool true)) from (But.put w m n _).mono (fun g _ h=>.inr h));have HD1:=aH (show bF (dC s.1 n) gr.ns.length < d from Hg HNN.o HZ.o HD0.o);obtain ⟨RES,hRES⟩:∃ z,jI gr (d + 1) n s=z:=⟨_,rfl⟩;rw [hRES] at HV ⊢;clear hRES HM1;go_upto_region 2 with fail;generalize w.setCell ⟨m,n,none⟩ (.bool true)=w1 at *;clear m0 ml g7 gl hfz HOW;have hrow:Own w1 p 93 (wJ gr a u l m v):=HF1.o.own;unfold wJ at hrow;obtain ⟨b,off,ko,kc,hno,hb,hcap,c0,c1,c2,c3,c4,c5,c6,c7,c8,c9,hk⟩:=HF1.o.hg.1 n x HXM.o;have HK1:=aH hk;have HCP:=aH hcap;obtain ⟨nk,hnk⟩:∃ z,x.ks.length=z:=⟨_,rfl⟩;obtain ⟨op,hop⟩:∃ z,x.op=z:=⟨_,rfl⟩;have HNK:=aH hnk;have HOP:=aH hop;have HNO:=aH hno;rw [hnk] at c6;rw [hop] at c0;have g1:w1.cell? ⟨p,1,none⟩=some (.slice (some ⟨b,off,none⟩) nn a.nc):=(by rw [<- hno,<- HLN.o];exact hrow.cell 1);have gl:=hrow.lt;have hbl:Below w1.heap.size w1 (w1.alloc (.cells #[.int .i64 op,.string x.tx,.int .u64 x.s0,.int .u64 x.s1,.int .u64 x.s2,.int .u64 x.s3,.slice ko nk kc,.int .i64 x.tg,.int .i64 (x.mo:Int),.int .i64 x.ru] 45)):=bA _;have HF2:=aH (HF1.o.below hbl);have HB2:=aH (HB1.o.then_below hbl);have HK2:=aH (hk.below hbl);have HN2:=aH (Own.fresh w1 45 [.int .i64 op,.string x.tx,.int .u64 x.s0,.int .u64 x.s1,.int .u64 x.s2,.int .u64 x.s3,.slice ko nk kc,.int .i64 x.tg,.int .i64 (x.mo:Int),.int .i64 x.ru]);have HXP:=aH (show p < w1.heap.size/\m < w1.heap.size from ⟨hrow.lt,HF1.o.me.lt⟩);clear hbl hrow hk hcap hnk hop hno;go_upto_region 3 with fail;obtain ⟨X,hX⟩:∃ z,w1.heap.size=z:=⟨_,rfl⟩;rw [hX] at HN2 HXP;generalize w1.alloc (.cells #[.int .i64 op,.string x.tx,.int .u64 x.s0,.int .u64 x.s1,.int .u64 x.s2,.int .u64 x.s3,.slice ko nk kc,.int .i64 x.tg,.int .i64 (x.mo:Int),.int .i64 x.ru] 45)=w2 at *;try rw [hX]
   clear hX c0 c1 c2 c3 c4 c5 c6 c7 c8 c9 hb g1 gl;have y0:w2.cell? ⟨X,0,none⟩=some (.int .i64 op):=HN2.o.cell 0;have y6:w2.cell? ⟨X,6,none⟩=some (.slice ko nk kc):=HN2.o.cell 6;have yl:=HN2.o.lt;have hrow:Own w2 p 93 (wJ gr a u l m v):=HF2.o.own;unfold wJ at hrow;have HRW:=aH hrow;have gl:=hrow.lt;have HTE:=aH ((Kz HXM.o).trans (by rw [HOP.o]));have HNE:=aH ((Uk HXM.o).trans (by rw [HOP.o]));rcases B8S op with rfl | rfl | rfl | ⟨h11,h9,h10⟩
   ·
    have HE:=aH (show RES=jI gr d (bY gr n) (dC s.1 n,s.2) from by
     rw [HV.o,HTE.o,HNE.o]
     rfl)
    have HBO:=aH (uQ gr a HGD.o n HNN.o w2 (HF2.o.hg.mono fun _ _ _=>trivial));have HC:=aH (fun W vv h=>HX.o (bY gr n) (dC s.1 n,s.2) vv W (jK HGD.o HNN.o) HD1.o h);unfold grv at HBO;have g0:w2.cell? ⟨p,0,none⟩=some (.slice a.mo gr.ms.length a.mc):=hrow.cell 0;have g1:w2.cell? ⟨p,1,none⟩=some (.slice a.no gr.ns.length a.nc):=hrow.cell 1;have g2:w2.cell? ⟨p,2,none⟩=some (.slice a.ho gr.hs.length a.hc):=hrow.cell 2;have g3:w2.cell? ⟨p,3,none⟩=some (.slice a.wo gr.ws.length a.wc):=hrow.cell 3;have g4:w2.cell? ⟨p,4,none⟩=some (.int .i64 gr.st):=hrow.cell 4;clear hrow;go_wp2_with fail;refine HBO.o.mono ?_;rintro e w3 ⟨he,hb3⟩;subst he;have HF3:=aH (HF2.o.below hb3);have HB3:=aH (HB2.o.then_below hb3);clear hb3 g0 g1 g2 g3 g4;go_wp2_with fail;refine (HC.o w3 v HF3.o).mono ?_;rintro e w4 ⟨he,⟨v4,hF4⟩,hB4⟩;subst he;have HF4:=aH hF4;have HB4:=aH (HB3.o.trans hB4 (fun g _ h=>h));clear hF4 hB4;go_wp2
    go_end0
    rw [HE.o];exact ⟨rfl,⟨v4,HF4.o⟩,HB4.o⟩
   ·
    have HE:=aH (show RES=(dC s.1 n,s.2) from by
     rw [HV.o,HTE.o,HNE.o]
     rfl)
    clear hrow;go_wp2
    go_end0
    rw [HE.o];exact ⟨rfl,⟨v,HF2.o⟩,HB2.o⟩
   ·
    have HE:=aH (show RES=(dC s.1 n,s.2) from by
     rw [HV.o,HTE.o,HNE.o]
     rfl)
    clear hrow;go_wp2
    go_end0
    rw [HE.o];exact ⟨rfl,⟨v,HF2.o⟩,HB2.o⟩
   ·
    obtain ⟨cut,hcu⟩:∃ z,(op == 4)=z:=⟨_,rfl⟩;obtain ⟨b5,hb5⟩:∃ z,(op == 5)=z:=⟨_,rfl⟩;obtain ⟨q,hq⟩:∃ q,nH gr n=q:=⟨_,rfl⟩;obtain ⟨z0,hz0⟩:∃ z,((nk:Int) == 0)=z:=⟨_,rfl⟩;obtain ⟨TB,hTB⟩:∃ z,(z0 || ((cut || b5) && !q))=z:=⟨_,rfl⟩;have hTE:(x.ks.isEmpty || ((op == 4 || op == 5) && !nH gr n))=TB:=(by rw [qP,HNK.o,hcu,hb5,hq,<- hTB,<- hz0];rfl);have hno:¬ (op=11\/op=9\/op=10):=(by simp only [aN] at h11 h9 h10;omega);have HT1:=aH (show wN gr n=TB from by rw [HTE.o,if_neg hno,hTE])
    have HN1:=aH (show gT gr n=if TB=true then [] else NI cut (aZ gr) x.ks from by
     rw [HNE.o,if_neg (fun e=>hno (.inl e)),if_neg (fun e=>hno (.inr e)),hTE];unfold NI;rw [<- hcu];by_cases e:op=4
     · rw [if_pos e,if_pos (beq_iff_eq.2 e)]
     · rw [if_neg e,if_neg (show ¬ (op == 4)=true by rw [aN.2 e];decide)])
    have l0:w2.cell? ⟨l,n,none⟩=some (.bool q):=(by rw [HF2.o.le.cell n,<- hq];exact bH _ _ n HNN.o);have ll:=HF2.o.le.lt;have g6:w2.cell? ⟨p,6,none⟩=some (.slice (some ⟨l,0,none⟩) nn nn):=(by rw [<- HLN.o];exact hrow.cell 6);clear hTE hq hrow HTE HNE;go_upto_region 6 with fail
    go_cut [48] (fun s48 wx=>s48=.bool TB/\wx=w2)
    case first =>
     subst hTB
     cases z0 with
     | true =>
      go_wp2
      go_meet
      exact ⟨rfl,rfl⟩
     | false =>
      cases cut <;> cases b5 <;> cases q
      all_goals
       go_wp2
       go_meet
       exact ⟨rfl,rfl⟩
    case rest =>
     obtain ⟨rfl,hwc⟩:=hcut;subst hwc;have g8:wc.cell? ⟨p,8,none⟩=some v:=HRW.o.cell 8;clear l0 ll g6 hTB hz0
     cases TB with
     | true =>
      have HE:=aH (show RES=(dC s.1 n,bT s.2 (n:Int)) from by
       rw [HV.o,HT1.o,HN1.o]
       rfl)
      have HPU:=aH (fun W (h:aO W C v s.2) h2=>vK s.2 (n:Int) (by have h1:s.2.length + bF (dC s.1 n) gr.ns.length<=gr.ns.length:=HF2.o.len;have:=HGD.o.len;omega) v C W h h2);go_wp2_with fail;refine (HPU.o wc HF2.o.fo HF2.o.sz).mono ?_;rintro e w3 ⟨v3,he,hI3,hb3⟩;obtain ⟨ao3,n3,cap3,rfl⟩:∃ ao n c,v3=.slice ao n c:=(by obtain ⟨x1,x2,x3,-⟩:=hI3;exact ⟨x1,_,x2,x3⟩);subst he;have HF3:=aH (HF2.o.below hb3);have HB3:=aH (HB2.o.then_below hb3);have HFN:=aH (HF3.o.found hI3 (by have h1:=nS (n:Int) s.2;have h2:=HF0.o.len;have h3:=iR s.1 n HZ.o gr.ns.length;have h4:=gZ s.1 n HZ.o gr.ns.length HNN.o;rw [if_pos HNN.o] at h3;show (bT s.2 (n:Int)).length + bF (dC s.1 n) gr.ns.length<=gr.ns.length;omega));have HBN:=aH (HB3.o.trans (But.put w3 p 8 (.slice ao3 n3 cap3)) (fun g _ h=>.inl h));have g8:w3.cell? ⟨p,8,none⟩=some v:=aC g8 hb3;have f8:w3.frozen? ⟨p,8,none⟩=false:=HF3.o.own.thaw 8;have gl:=HF3.o.own.lt;clear hb3 hI3;go_wp2
      go_end0
      rw [HE.o];exact ⟨rfl,⟨_,HFN.o⟩,HBN.o⟩
     | false =>
      have HE0:=aH (show RES=oD (jI gr d) (NI cut (aZ gr) (x.ks.drop 0)) (dC s.1 n,s.2) from by
       rw [HV.o,HT1.o,HN1.o]
       rfl)
      have hkl:nk<=90001:=(by rw [<- HNK.o];exact HGD.o.kl x (aM HXM.o));have HB0:=aH (But.refl (fun b=>b=p\/b=m) wc);have HD2:=aH (show bF ((dC s.1 n,s.2):Fst).1 gr.ns.length < d from HD1.o);generalize ((dC s.1 n,s.2):Fst)=t0 at *;clear HV HT1 HN1 y0 y6 yl gl g8;go_wp2_with fail
      go_loopw [5] (fun v5 wr=>∃ (i:Nat) (t:Fst) (vt:Value),v5=.int .i64 (i:Int)/\(i:Int)<=nk/\aQ (RES=oD (jI gr d) (NI cut (aZ gr) (x.ks.drop i)) t)/\aQ (bF t.1 gr.ns.length < d)/\aQ (Fd 93 wr E p u l m C gr a t vt)/\aQ (Own wr X 45 [.int .i64 op,.string x.tx,.int .u64 x.s0,.int .u64 x.s1,.int .u64 x.s2,.int .u64 x.s3,.slice ko nk kc,.int .i64 x.tg,.int .i64 (x.mo:Int),.int .i64 x.ru])/\aQ (But (fun b=>b=p\/b=m) wc wr)) (fun v5 _=>nk - (intOf v5).toNat)
      case atStart=>exact ⟨0,t0,v,rfl,by omega,HE0,HD2,HF2,HN2,HB0⟩
      case round =>
       obtain ⟨i,t,vt,rfl,hi,HE1,HD,HF,HN,HB⟩:=hrel;have y0:wr.cell? ⟨X,0,none⟩=some (.int .i64 op):=HN.o.cell 0;have y6:wr.cell? ⟨X,6,none⟩=some (.slice ko nk kc):=HN.o.cell 6;have yl:=HN.o.lt;by_cases hin:(i:Int) < nk
       ·
        have hi1:decide ((i:Int) < (nk:Int))=true:=aT hin;have hi2:decide (i < nk)=true:=aT (by omega);have hw2:IntKind.i64.wrap ((i:Int) + 1)=(i:Int) + 1:=wI;obtain ⟨q1,hq⟩:∃ q,x.ks[i]?=some q:=⟨_,aG (by have:=HNK.o;omega)⟩;have hqn:q1 < gr.ns.length:=HGD.o.kid x (aM HXM.o) q1 (aM hq);have HST:=aH (HE1.o.trans (A7C (V:=jI gr d) (cut:=cut) (NU:=aZ gr) (t:=t) hq));obtain ⟨b2,off2,hko,hb2,hbe,qq0⟩:=HK2.o i q1 hq;have q0:=HB.o.cell (by rintro (e | e);have e:b2=p:=e;have:=HF.o.lay.ep;omega;have e:b2=m:=e;have:=HF.o.lay.em;omega) qq0;have hb3:b2 < wr.heap.size:=World.block_lt_of_cell? wr _ q0;subst hko;have HC:=aH (HX.o q1 t vt wr hqn HD.o HF.o);have HQQ:=aH (show b2 < E from hbe);have HQ0:=aH qq0;have HQN:=aH hqn;clear hq hb2 hbe qq0 hqn;go_wp2_with fail;refine HC.o.mono ?_;rintro e w4 ⟨he,⟨v4,hF4⟩,hB4⟩;subst he;have HF4:=aH hF4;have HB4:=aH (HB.o.trans hB4 (fun g _ h=>h));have HN4:=aH (HN.o.but hB4 (by have:=HXP.o;rintro (e | e);have e:X=p:=e;omega;have e:X=m:=e;omega));have HD4:=aH (show bF (jI gr d q1 t).1 gr.ns.length < d from Nat.lt_of_le_of_lt (Hf (xR gr d q1 t) _) HD.o);clear hF4 hB4 y0 y6 yl q0 hb3 HC;have y0:w4.cell? ⟨X,0,none⟩=some (.int .i64 op):=HN4.o.cell 0;have y6:w4.cell? ⟨X,6,none⟩=some (.slice (some ⟨b2,off2,none⟩) nk kc):=HN4.o.cell 6;have yl:=HN4.o.lt;have q0:=HB4.o.cell (by have:=HQQ.o;rintro (e | e);have e:b2=p:=e;have:=HF4.o.lay.ep;omega;have e:b2=m:=e;have:=HF4.o.lay.em;omega) HQ0.o;have hb3:b2 < w4.heap.size:=World.block_lt_of_cell? w4 _ q0;have hrow:Own w4 p 93 (wJ gr a u l m v4):=HF4.o.own;unfold wJ at hrow;have g5:w4.cell? ⟨p,5,none⟩=some (.slice (some ⟨u,0,none⟩) nn nn):=(by rw [<- HLN.o];exact hrow.cell 5);have gl:=hrow.lt;have u0:w4.cell? ⟨u,q1,none⟩=some (.bool (aZ gr q1)):=(by rw [HF4.o.nu.cell q1];exact bH _ _ q1 HQN.o);have ul:=HF4.o.nu.lt;have hq1:decide ((q1:Int) < (nn:Int))=true:=aT (by have:=HQN.o;have:=HLN.o;omega);have hq2:decide (q1 < nn)=true:=aT (by have:=HQN.o;have:=HLN.o;omega);have hqlt:q1 < nn:=(by have:=HQN.o;have:=HLN.o;omega);obtain ⟨y,hy⟩:∃ z,aZ gr q1=z:=⟨_,rfl⟩;rw [hy] at HST u0;clear hrow hy;have hor:(cut=true/\y=false)\/(cut && !y)=false:=(by cases cut <;> cases y <;> simp);rcases hor with ⟨rfl,rfl⟩ | hgo
        ·
         have HE:=aH (show RES=jI gr d q1 t from HST.o.trans (if_pos rfl));go_wp2_with fail;go_quiet (fail);have hbd:=below_drewN (Below.refl w4.heap.size w4) nq;have HF5:=aH (HF4.o.below hbd);have HB5:=aH (HB2.o.trans (HB4.o.then_below hbd) (fun g _ h=>h));clear hbd;go_wp2
         go_end0
         rw [HE.o];exact ⟨rfl,⟨v4,HF5.o⟩,HB5.o⟩
        ·
         have HE2:=aH (show RES=oD (jI gr d) (NI cut (aZ gr) (x.ks.drop (i + 1))) (jI gr d q1 t) from HST.o.trans (if_neg (by rw [hgo];decide)))
         cases cut <;> cases y <;> first | (exact absurd hgo (by decide)) | skip
         all_goals
          go_wp2_with fail;go_quiet (fail);have hbd:=below_drewN (Below.refl w4.heap.size w4) nq;have HF5:=aH (HF4.o.below hbd);have HB5:=aH (HB4.o.then_below hbd);have HN5:=aH (HN4.o.under hbd HN4.o.lt);clear hbd;go_wp2
          go_roundw
          case rel=>exact ⟨i + 1,jI gr d q1 t,v4,by go_num,by omega,HE2,HD4,HF5,HN5,HB5⟩
          case measure=>simp [intOf];omega
       ·
        have hi1:decide ((i:Int) < (nk:Int))=false:=aF hin;have hi2:decide (i < nk)=false:=aF (by omega);have HE:=aH (show RES=t from by rw [HE1.o,List.drop_of_length_le (by have:=HNK.o;omega)];exact A9f);have HB5:=aH (HB2.o.trans HB.o (fun g _ h=>h));go_wp2
        go_end0
        rw [HE.o];exact ⟨rfl,⟨vt,HF.o⟩,HB5.o⟩
theorem B3C (gr:Gj) (a:Gv) (hg:Good gr) (E p u l m C:Nat):∀ (d n:Nat) (s:Fst) (v:Value) (w:World),n < gr.ns.length->bF s.1 gr.ns.length < d->Fd 93 w E p u l m C gr a s v->Calls Tryz.prog 47 #[.pointer (some ⟨p,0,none⟩),.int .i64 (n:Int)] w (FdE 93 w E p u l m C gr a (jI gr d n s)):=fun d=>by
 induction d with
 | zero=>intro n s v w _ h _;omega
 | succ d ih=>exact fun n s v w hn hd hF=>A8Y gr a hg E p u l m C d ih n s v w hn hd hF
theorem Oa (gr:Gj) (a:Gv) (hg:Good gr) (n:Int) (w:World) (hG:dG w gr a):Calls Tryz.prog 24 #[grv gr a,.int .i64 n] w (LeE gr (nE gr n) w):=by
 have HGD:=aH hg;have HB1:=gB w a gr;have HO1:=gO w a gr;have HG1:=aH ((hG.mono (T:=fun b=>b < w.heap.size) (fun _ h _=>h)).below HB1.o);have HNU:=aH (fun W h=>nW gr a hg W h);have HLD:=aH (fun W h=>KW gr a hg W h);have HFI:=aH (fun E p u l m C k v W h1 h2 h3=>B3C gr a hg E p u l m C (gr.ns.length + 1) k (fun _=>false,[]) v W h1 h2 h3)
 have HRES:=aH (show ∀ k:Nat,k < gr.ns.length->nE gr (k:Int)=(jI gr (gr.ns.length + 1) k (fun _=>false,[])).2 from fun k hk=>by
  unfold nE;rw [if_pos (by omega),Int.toNat_natCast]
  rfl)
 have HNO:=aH (show ∀ k:Int,(k < 0\/(gr.ns.length:Int)<=k)->nE gr k=[] from fun k hk=>by
  unfold nE
  exact if_neg (by omega))
 unfold LeE;obtain ⟨RES,hRES⟩:∃ z,nE gr n=z:=⟨_,rfl⟩;have HRS:=aH hRES;rw [hRES];clear hRES;unfold BoE at HNU HLD;unfold grv;unfold grv at HNU HLD;have HRW:=aH (fun u l m v=>show wJ gr a u l m v=[.slice a.mo gr.ms.length a.mc,.slice a.no gr.ns.length a.nc,.slice a.ho gr.hs.length a.hc,.slice a.wo gr.ws.length a.wc,.int .i64 gr.st,.slice (some ⟨u,0,none⟩) gr.ns.length gr.ns.length,.slice (some ⟨l,0,none⟩) gr.ns.length gr.ns.length,.slice (some ⟨m,0,none⟩) gr.ns.length gr.ns.length,v] from rfl);obtain ⟨nn,nh,nms,nw,hnn,hnh,hnms,hnw⟩:=nG gr;have HLN:=aH hnn;have hn160:(nn:Int)<=160:=by have:=hg.len;omega
 rw [hnn,hnh,hnms,hnw] at HNU HLD HB1 HO1 HG1;rw [hnn] at HRES HNO HFI;simp only [hnn,hnh,hnms,hnw] at HRW;rw [hnn,hnh,hnms,hnw];obtain ⟨B,hB⟩:∃ B,w.heap.size=B:=⟨_,rfl⟩;have HW1:=aH (show (w.alloc (.cells #[.slice a.mo nms a.mc,.slice a.no nn a.nc,.slice a.ho nh a.hc,.slice a.wo nw a.wc,.int .i64 gr.st] 27)).heap.size=B + 1 from by rw [<- hB];simp);have HBE:=aH hB;rw [hB] at HO1;clear hg hG hnn hnh hnms hnw;have hmk:∀ W:World,(Instr.makeSlice 39 (.int .i64 (nn:Int)) (.int .i64 (nn:Int))).run Tryz.prog W=.ok (.slice (some ⟨W.heap.size,0,none⟩) nn nn) (W.alloc (.cells (Array.replicate nn (Value.bool false)) 4)):=fun W=>mY nn (by omega) W;have HMK:=aH hmk;clear hmk;go_enter Tryz.func24,Tryz.ntmps24;go_upto_region 1 with fail;generalize w.alloc (.cells #[.slice a.mo nms a.mc,.slice a.no nn a.nc,.slice a.ho nh a.hc,.slice a.wo nw a.wc,.int .i64 gr.st] 27)=w1 at *;try rw [hB]
 clear hB;obtain ⟨g0,g1,g2,g3,g4,gl⟩:=oG HO1.o;by_cases hlo:n < 0
 · have hlo1:decide (n < 0)=true:=aT hlo;have HE:=aH (HRS.o.symm.trans (HNO.o n (.inl hlo)));go_wp2;go_ret;rw [HE.o];exact ⟨_,rfl,aO.nil _ _,HB1.o⟩
 by_cases hhi:(nn:Int)<=n
 · have hlo1:decide (n < 0)=false:=aF hlo;have hhi1:decide ((nn:Int)<=n)=true:=aT hhi;have HE:=aH (HRS.o.symm.trans (HNO.o n (.inr hhi)));go_wp2;go_ret;rw [HE.o];exact ⟨_,rfl,aO.nil _ _,HB1.o⟩
 obtain ⟨k,rfl⟩:∃ k:Nat,n=(k:Int):=⟨n.toNat,by omega⟩;have hlo1:decide ((k:Int) < 0)=false:=aF hlo;have hhi1:decide ((nn:Int)<=(k:Int))=false:=aF hhi;have hhi2:decide (nn<=k)=false:=aF (by omega);have hkn:k < nn:=by omega
 have HE:=aH (HRS.o.symm.trans (HRES.o k hkn));clear hlo hhi;go_upto_region 3 with fail
 go_cut [5] (fun s5 wx=>∃ u l m p,s5=.pointer (some ⟨p,0,none⟩)/\aQ (Own wx p 93 [.slice a.mo nms a.mc,.slice a.no nn a.nc,.slice a.ho nh a.hc,.slice a.wo nw a.wc,.int .i64 gr.st,.slice (some ⟨u,0,none⟩) nn nn,.slice (some ⟨l,0,none⟩) nn nn,.slice (some ⟨m,0,none⟩) nn nn,.slice none 0 0])/\aQ (Own wx u 4 (bZ (aZ gr) nn))/\aQ (Own wx l 4 (bZ (nH gr) nn))/\aQ (Own wx m 4 (bZ (fun _=>false) nn))/\aQ (B + 1<=u/\B + 1<=l/\B + 1<=m/\u ≠ m/\l ≠ m/\u < p/\l < p/\m < p)/\aQ (Below w1.heap.size w1 wx))
 case first =>
  refine wp_region_held (S:=fun Wx=>B < Wx.heap.size/\Wx.cell? ⟨B,0,none⟩=some (.slice a.mo nms a.mc)/\Wx.cell? ⟨B,1,none⟩=some (.slice a.no nn a.nc)/\Wx.cell? ⟨B,2,none⟩=some (.slice a.ho nh a.hc)/\Wx.cell? ⟨B,3,none⟩=some (.slice a.wo nw a.wc)/\Wx.cell? ⟨B,4,none⟩=some (.int .i64 gr.st)) (by kernel_rfl) ?_;change wpAnyH _ _ _ _ _ _ _ _ (World.drew _);have HKS:=aH (fun (W:World) (h:Below w1.heap.size w1 W)=>show B < W.heap.size/\W.cell? ⟨B,0,none⟩=some (.slice a.mo nms a.mc)/\W.cell? ⟨B,1,none⟩=some (.slice a.no nn a.nc)/\W.cell? ⟨B,2,none⟩=some (.slice a.ho nh a.hc)/\W.cell? ⟨B,3,none⟩=some (.slice a.wo nw a.wc)/\W.cell? ⟨B,4,none⟩=some (.int .i64 gr.st) from ⟨aL gl h.size,aC g0 h,aC g1 h,aC g2 h,aC g3 h,aC g4 h⟩);have HSS:=aH (HKS.o (World.drew w1) (Below.refl _ _).drew);clear g0 g1 g2 g3 g4 gl;refine tkG 0 ?_ rfl HSS.o (by rfl) ?_ ?_;rotate_left;· rintro W ⟨a0,a1,a2,a3,a4,a5⟩;go_simp;try with_reducible rfl
  go_simp;refine tkG 1 ?_ rfl HSS.o (by rfl) ?_ ?_;rotate_left;· rintro W ⟨a0,a1,a2,a3,a4,a5⟩;go_simp;try with_reducible rfl
  go_simp;refine tkG 3 ?_ rfl HSS.o (by rfl) ?_ ?_;rotate_left;· rintro W ⟨a0,a1,a2,a3,a4,a5⟩;go_simp;try with_reducible rfl
  go_simp;refine tkG 5 ?_ rfl HSS.o (by rfl) ?_ ?_;rotate_left;· rintro W ⟨a0,a1,a2,a3,a4,a5⟩;go_simp;try with_reducible rfl
  go_simp;refine tkG 6 ?_ rfl HSS.o (by rfl) ?_ ?_;rotate_left;· rintro W ⟨a0,a1,a2,a3,a4,a5⟩;go_simp;try with_reducible rfl
  go_simp;refine tkG 7 ?_ rfl HSS.o (by rfl) ?_ ?_;rotate_left;· rintro W ⟨a0,a1,a2,a3,a4,a5⟩;go_simp;try with_reducible rfl
  go_simp;have hb0:Below w1.heap.size w1 (World.drew w1):=(Below.refl _ _).drew;refine nM (i:=2) (k:=8) (by kernel_rfl) (bB (f:=15) (vs:=#[.agg #[.slice a.mo nms a.mc,.slice a.no nn a.nc,.slice a.ho nh a.hc,.slice a.wo nw a.wc,.int .i64 gr.st]]) rfl (by kernel_rfl) (by go_simp) ((HNU.o (World.drew w1) (HG1.o.below hb0 |>.mono fun _ _ _=>trivial)).mono ?_)) (aY (v:=.slice (some ⟨(World.drew w1).heap.size,0,none⟩) nn nn) (w':=(World.drew w1).alloc (.cells (Array.replicate nn (Value.bool false)) 4)) rfl (by kernel_rfl) (by go_simp;rw [HMK.o];rfl) ?_)
  ·
   rintro e v1 ⟨u,he,hu,hul,hbq⟩;have hb1:=hb0.trans (hbq.mono hb0.size);have hul:w1.heap.size<=u:=hul;refine ⟨_,he,HKS.o v1 hb1,?_⟩;go_simp;refine nM (i:=4) (k:=8) (by kernel_rfl) (bB (f:=46) (vs:=#[.agg #[.slice a.mo nms a.mc,.slice a.no nn a.nc,.slice a.ho nh a.hc,.slice a.wo nw a.wc,.int .i64 gr.st]]) rfl (by kernel_rfl) (by go_simp) ((HLD.o v1 (HG1.o.below hb1 |>.mono fun _ _ _=>trivial)).mono ?_)) (aY (v:=.slice (some ⟨v1.heap.size,0,none⟩) nn nn) (w':=v1.alloc (.cells (Array.replicate nn (Value.bool false)) 4)) rfl (by kernel_rfl) (by go_simp;rw [HMK.o];rfl) ?_)
   ·
    rintro e v2 ⟨l,he2,hl,hll,hbq2⟩;have hb2:=hb1.trans (hbq2.mono hb1.size);have hu2:=hu.under hbq2 hu.lt;refine ⟨_,he2,HKS.o v2 hb2,?_⟩;go_simp;have hbq3:Below v2.heap.size v2 (v2.alloc (.cells (Array.replicate nn (Value.bool false)) 4)):=bA _;have hb3:=hb2.trans (hbq3.mono hb2.size);refine bE (i:=8) (by kernel_rfl) (aY (v:=.slice (some ⟨v2.heap.size,0,none⟩) nn nn) (w':=v2.alloc (.cells (Array.replicate nn (Value.bool false)) 4)) rfl (by kernel_rfl) (by go_simp;rw [HMK.o];rfl) ?_);refine ⟨HKS.o _ hb3,?_⟩;obtain ⟨m,hm0⟩:∃ m,v2.heap.size=m:=⟨_,rfl⟩;have hm:Own (v2.alloc (.cells (Array.replicate nn (Value.bool false)) 4)) m 4 (bZ (fun _=>false) nn):=(by rw [<- hm0];rw [nT,<- List.toArray_replicate];exact Own.fresh v2 4 _);have hu3:=hu2.under hbq3 hu2.lt;have hl3:=hl.under hbq3 hl.lt;have f1:=hu2.lt;have f2:=hl.lt;have f3:=hb1.size;have f4:=hb2.size;rw [hm0] at f1 f2 f4;clear hbq3 hbq2 hbq hu hu2 hl;have hu:=hu3;have hl:=hl3;clear hu3 hl3;generalize v2.alloc (.cells (Array.replicate nn (Value.bool false)) 4)=v3 at *;try rw [hm0]
    clear hm0;go_simp;refine tkG 9 ?_ rfl (HKS.o v3 hb3) (by rfl) ?_ ?_;rotate_left;· rintro W h;go_simp;try with_reducible rfl
    go_simp;have hbx:Below v3.heap.size v3 (v3.alloc (.cells #[.slice a.mo nms a.mc,.slice a.no nn a.nc,.slice a.ho nh a.hc,.slice a.wo nw a.wc,.int .i64 gr.st,.slice (some ⟨u,0,none⟩) nn nn,.slice (some ⟨l,0,none⟩) nn nn,.slice (some ⟨m,0,none⟩) nn nn,.slice none 0 0] 93)):=bA _;have hbz:=hb3.trans (hbx.mono hb3.size);refine bE (i:=10) (by kernel_rfl) (aY (v:=.pointer (some ⟨v3.heap.size,0,none⟩)) (w':=v3.alloc (.cells #[.slice a.mo nms a.mc,.slice a.no nn a.nc,.slice a.ho nh a.hc,.slice a.wo nw a.wc,.int .i64 gr.st,.slice (some ⟨u,0,none⟩) nn nn,.slice (some ⟨l,0,none⟩) nn nn,.slice (some ⟨m,0,none⟩) nn nn,.slice none 0 0] 93)) rfl (by kernel_rfl) (by go_simp;try rfl) ?_);refine ⟨HKS.o _ hbz,?_⟩;go_simp;refine tkG 11 ?_ rfl (HKS.o _ hbz) (by rfl) ?_ ?_;rotate_left;· rintro W h;go_simp;try with_reducible rfl
    go_simp;refine wpAnyH_done (by kernel_rfl) ?_ _;go_simp;try go_wp2
    go_meet
    have hw1:=HW1.o;exact ⟨u,l,m,v3.heap.size,rfl,aH (Own.fresh v3 93 [.slice a.mo nms a.mc,.slice a.no nn a.nc,.slice a.ho nh a.hc,.slice a.wo nw a.wc,.int .i64 gr.st,.slice (some ⟨u,0,none⟩) nn nn,.slice (some ⟨l,0,none⟩) nn nn,.slice (some ⟨m,0,none⟩) nn nn,.slice none 0 0]),aH (hu.under hbx hu.lt),aH (hl.under hbx hl.lt),aH (hm.under hbx hm.lt),aH ⟨by omega,by omega,by omega,by omega,by omega,hu.lt,hl.lt,hm.lt⟩,aH hbz⟩
   ·
    have hbq2:Below v1.heap.size v1 (v1.alloc (.cells (Array.replicate nn (Value.bool false)) 4)):=bA _;have hb2:=hb1.trans (hbq2.mono hb1.size);refine ⟨HKS.o _ hb2,?_⟩;obtain ⟨m,hm0⟩:∃ m,v1.heap.size=m:=⟨_,rfl⟩;have hm:Own (v1.alloc (.cells (Array.replicate nn (Value.bool false)) 4)) m 4 (bZ (fun _=>false) nn):=(by rw [<- hm0];rw [nT,<- List.toArray_replicate];exact Own.fresh v1 4 _);have hu2:=hu.under hbq2 hu.lt;have f1:=hu.lt;have f3:=hb1.size;rw [hm0] at f1 f3;have f4:m < (v1.alloc (.cells (Array.replicate nn (Value.bool false)) 4)).heap.size:=hm.lt;clear hbq2 hbq hu;generalize v1.alloc (.cells (Array.replicate nn (Value.bool false)) 4)=v2 at *;try rw [hm0]
    clear hm0;go_simp;refine bE (i:=4) (by kernel_rfl) (bB (f:=46) (vs:=#[.agg #[.slice a.mo nms a.mc,.slice a.no nn a.nc,.slice a.ho nh a.hc,.slice a.wo nw a.wc,.int .i64 gr.st]]) rfl (by kernel_rfl) (by go_simp) ((HLD.o v2 (HG1.o.below hb2 |>.mono fun _ _ _=>trivial)).mono ?_));rintro e v3 ⟨l,he2,hl,hll,hbq2⟩;have hb3:=hb2.trans (hbq2.mono hb2.size);have hu:=hu2.under hbq2 hu2.lt;have hm2:=hm.under hbq2 hm.lt;clear hm;have hm:=hm2;clear hm2;refine ⟨_,he2,HKS.o v3 hb3,?_⟩;go_simp;refine tkG 9 ?_ rfl (HKS.o v3 hb3) (by rfl) ?_ ?_;rotate_left;· rintro W h;go_simp;try with_reducible rfl
    go_simp;have hbx:Below v3.heap.size v3 (v3.alloc (.cells #[.slice a.mo nms a.mc,.slice a.no nn a.nc,.slice a.ho nh a.hc,.slice a.wo nw a.wc,.int .i64 gr.st,.slice (some ⟨u,0,none⟩) nn nn,.slice (some ⟨l,0,none⟩) nn nn,.slice (some ⟨m,0,none⟩) nn nn,.slice none 0 0] 93)):=bA _;have hbz:=hb3.trans (hbx.mono hb3.size);refine bE (i:=10) (by kernel_rfl) (aY (v:=.pointer (some ⟨v3.heap.size,0,none⟩)) (w':=v3.alloc (.cells #[.slice a.mo nms a.mc,.slice a.no nn a.nc,.slice a.ho nh a.hc,.slice a.wo nw a.wc,.int .i64 gr.st,.slice (some ⟨u,0,none⟩) nn nn,.slice (some ⟨l,0,none⟩) nn nn,.slice (some ⟨m,0,none⟩) nn nn,.slice none 0 0] 93)) rfl (by kernel_rfl) (by go_simp;try rfl) ?_);refine ⟨HKS.o _ hbz,?_⟩;go_simp;refine tkG 11 ?_ rfl (HKS.o _ hbz) (by rfl) ?_ ?_;rotate_left;· rintro W h;go_simp;try with_reducible rfl
    go_simp;refine wpAnyH_done (by kernel_rfl) ?_ _;go_simp;try go_wp2
    go_meet
    have hw1:=HW1.o;exact ⟨u,l,m,v3.heap.size,rfl,aH (Own.fresh v3 93 [.slice a.mo nms a.mc,.slice a.no nn a.nc,.slice a.ho nh a.hc,.slice a.wo nw a.wc,.int .i64 gr.st,.slice (some ⟨u,0,none⟩) nn nn,.slice (some ⟨l,0,none⟩) nn nn,.slice (some ⟨m,0,none⟩) nn nn,.slice none 0 0]),aH (hu.under hbx hu.lt),aH (hl.under hbx hl.lt),aH (hm.under hbx hm.lt),aH ⟨by omega,by omega,by omega,by omega,by omega,hu.lt,hl.lt,hm.lt⟩,aH hbz⟩
  ·
   have hbq1:Below (World.drew w1).heap.size (World.drew w1) ((World.drew w1).alloc (.cells (Array.replicate nn (Value.bool false)) 4)):=bA _;have hb1:=hb0.trans (hbq1.mono hb0.size);refine ⟨HKS.o _ hb1,?_⟩;obtain ⟨m,hm0⟩:∃ m,(World.drew w1).heap.size=m:=⟨_,rfl⟩;have hm:Own ((World.drew w1).alloc (.cells (Array.replicate nn (Value.bool false)) 4)) m 4 (bZ (fun _=>false) nn):=(by rw [<- hm0];rw [nT,<- List.toArray_replicate];exact Own.fresh (World.drew w1) 4 _);have f3:w1.heap.size<=m:=Nat.le_of_eq hm0;have f4:m < ((World.drew w1).alloc (.cells (Array.replicate nn (Value.bool false)) 4)).heap.size:=hm.lt;clear hbq1;generalize (World.drew w1).alloc (.cells (Array.replicate nn (Value.bool false)) 4)=v1 at *;try rw [hm0]
   clear hm0;go_simp;refine bE (i:=2) (by kernel_rfl) (bB (f:=15) (vs:=#[.agg #[.slice a.mo nms a.mc,.slice a.no nn a.nc,.slice a.ho nh a.hc,.slice a.wo nw a.wc,.int .i64 gr.st]]) rfl (by kernel_rfl) (by go_simp) ((HNU.o v1 (HG1.o.below hb1 |>.mono fun _ _ _=>trivial)).mono ?_));rintro e v2 ⟨u,he,hu,hul,hbq⟩;have hb2:=hb1.trans (hbq.mono hb1.size);have hm2:=hm.under hbq hm.lt;have f5:=hb1.size;have f6:=hbq.size;refine ⟨_,he,HKS.o v2 hb2,?_⟩;go_simp;refine bE (i:=4) (by kernel_rfl) (bB (f:=46) (vs:=#[.agg #[.slice a.mo nms a.mc,.slice a.no nn a.nc,.slice a.ho nh a.hc,.slice a.wo nw a.wc,.int .i64 gr.st]]) rfl (by kernel_rfl) (by go_simp) ((HLD.o v2 (HG1.o.below hb2 |>.mono fun _ _ _=>trivial)).mono ?_));rintro e v3 ⟨l,he2,hl,hll,hbq2⟩;have hb3:=hb2.trans (hbq2.mono hb2.size);have hu2:=hu.under hbq2 hu.lt;have hm3:=hm2.under hbq2 hm2.lt;clear hu hm hm2;have hu:=hu2;have hm:=hm3;clear hu2 hm3;refine ⟨_,he2,HKS.o v3 hb3,?_⟩;go_simp;refine tkG 9 ?_ rfl (HKS.o v3 hb3) (by rfl) ?_ ?_;rotate_left;· rintro W h;go_simp;try with_reducible rfl
   go_simp;have hbx:Below v3.heap.size v3 (v3.alloc (.cells #[.slice a.mo nms a.mc,.slice a.no nn a.nc,.slice a.ho nh a.hc,.slice a.wo nw a.wc,.int .i64 gr.st,.slice (some ⟨u,0,none⟩) nn nn,.slice (some ⟨l,0,none⟩) nn nn,.slice (some ⟨m,0,none⟩) nn nn,.slice none 0 0] 93)):=bA _;have hbz:=hb3.trans (hbx.mono hb3.size);refine bE (i:=10) (by kernel_rfl) (aY (v:=.pointer (some ⟨v3.heap.size,0,none⟩)) (w':=v3.alloc (.cells #[.slice a.mo nms a.mc,.slice a.no nn a.nc,.slice a.ho nh a.hc,.slice a.wo nw a.wc,.int .i64 gr.st,.slice (some ⟨u,0,none⟩) nn nn,.slice (some ⟨l,0,none⟩) nn nn,.slice (some ⟨m,0,none⟩) nn nn,.slice none 0 0] 93)) rfl (by kernel_rfl) (by go_simp;try rfl) ?_);refine ⟨HKS.o _ hbz,?_⟩;go_simp;refine tkG 11 ?_ rfl (HKS.o _ hbz) (by rfl) ?_ ?_;rotate_left;· rintro W h;go_simp;try with_reducible rfl
   go_simp;refine wpAnyH_done (by kernel_rfl) ?_ _;go_simp;try go_wp2
   go_meet
   have hw1:=HW1.o;exact ⟨u,l,m,v3.heap.size,rfl,aH (Own.fresh v3 93 [.slice a.mo nms a.mc,.slice a.no nn a.nc,.slice a.ho nh a.hc,.slice a.wo nw a.wc,.int .i64 gr.st,.slice (some ⟨u,0,none⟩) nn nn,.slice (some ⟨l,0,none⟩) nn nn,.slice (some ⟨m,0,none⟩) nn nn,.slice none 0 0]),aH (hu.under hbx hu.lt),aH (hl.under hbx hl.lt),aH (hm.under hbx hm.lt),aH ⟨by omega,by omega,by omega,by omega,by omega,hu.lt,hl.lt,hm.lt⟩,aH hbz⟩
 case rest =>
  obtain ⟨u,l,m,p,rfl,HP,HU,HL,HM,HQ,HB⟩:=hcut;have hB3:=HB1.o.trans (HB.o.mono HB1.o.size);have HBZ:=aH hB3;have hfd:Fd 93 wc B p u l m wc.heap.size gr a (fun _=>false,[]) (.slice none 0 0):=by
   have q:=HQ.o;have hbe:=HBE.o;refine ⟨⟨by omega,by omega,by omega,by omega,by omega,by omega,by omega,HP.o.lt,HM.o.lt⟩,?_,?_,?_,?_,aO.nil _ _,?_,?_,Nat.le_refl _⟩
   · rw [HRW.o];exact HP.o
   · rw [HLN.o];exact HU.o
   · rw [HLN.o];exact HL.o
   · rw [HLN.o];exact HM.o
   · have:=HG1.o.below HB.o;rw [hbe] at this;exact this
   · have:=iQ (fun _=>false) gr.ns.length;show 0 + bF (fun _=>false) gr.ns.length<=_;omega
  have HC:=aH (HFI.o B p u l m wc.heap.size k (.slice none 0 0) wc hkn (by rw [<- HLN.o];have:=iQ (fun _=>false) gr.ns.length;show bF (fun _=>false) gr.ns.length < _;omega) hfd);clear hfd hB3 g0 g1 g2 g3 g4 gl;generalize jI gr (nn + 1) k (fun _=>false,[])=RS at *;go_wp2_with fail;refine HC.o.mono ?_;rintro e w4 ⟨he,⟨v4,hF4⟩,hB4⟩;subst he;have hrow:=hF4.own;rw [HRW.o] at hrow;have g8:w4.cell? ⟨p,8,none⟩=some v4:=hrow.cell 8;have gl:=hrow.lt;have HF4:=aH hF4;have HZ:=aH (show Below w.heap.size w w4 from HBZ.o.trans (hB4.below (B:=w.heap.size) HBZ.o.size (fun j h=>by have:=HQ.o;have:=HBE.o;rcases h with h | h <;> omega)));clear hrow hF4 hB4;go_wp2;go_ret;exact ⟨v4,rfl,by rw [HE.o];exact HF4.o.fo.mono (HBZ.o.size),HZ.o⟩
 end Go.Proofs.YthddifjhoniacaaGreat
