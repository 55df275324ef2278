import Derived.Test.YthddifjhoniacaaGreatMa
import Derived.Test.YthddifjhoniacaaGreatIc
namespace Go.Proofs.YthddifjhoniacaaGreat
set_option linter.unusedVariables false
set_option maxHeartbeats 9600000
set_option maxRecDepth 1000000
open Go.RowKit Go.Sort
theorem vK (L:List Int) (j:Int) (hl:L.length<=1000) (v:Value) (C:Nat) (w:World) (hv:aO w C v L) (hC:C<=w.heap.size) :
  Calls Tryz.prog 54 #[v,.int .i64 j] w fun e w'=>∃ v',e=.returned v'/\aO w' C v' (bT L j)/\Below w.heap.size w w':=by
 have HP:=aH (fun k=>WR L j k);have hsl:(L.length:Int)<=1000:=by omega
 obtain ⟨RES,hR⟩:∃ R,bT L j=R:=⟨_,rfl⟩;rw [hR] at HP ⊢;clear hR hl;have HV:=aH hv;obtain ⟨ao,cap,rfl,hcap,hcell⟩:=hv;have HCELL:=aH hcell;obtain ⟨m,hm⟩:∃ m,L.length=m:=⟨_,rfl⟩;have HM:=aH hm;rw [hm] at hcap hsl;rw [hm];clear hcell hm;have HC:=aH hC;clear hC;obtain ⟨i0,hi,hz0,hz1,hz2⟩:=info_parts gL;have IP:=aH (And.intro hi (And.intro hz0 (And.intro hz1 hz2)));clear hi hz0 hz1 hz2;go_enter Tryz.func54,Tryz.ntmps54;go_wp2_with fail
 go_loopw [5] (fun b5 wr=>∃ k:Nat,b5=.int .i64 (k:Int)/\(k:Int)<=m/\aQ (∀ i,i < k->L.getD i 0 < j)/\w=wr) (fun b5 _=>m - (intOf b5).toNat)
 case atStart=>exact ⟨0,rfl,by omega,aH (fun i hi=>by omega),rfl⟩
 case round =>
  obtain ⟨k,rfl,hk,HK,rfl⟩:=hrel;have hw1:IntKind.i64.wrap ((k:Int) + 1)=(k:Int) + 1:=wI;have hkc:(k:Int)<=cap:=by omega
  have hkc':k<=cap:=by omega
  have hkm:k<=m:=by omega
  by_cases h1:(k:Int) < m
  ·
   obtain ⟨g,off,rfl,hg,hgC,hc⟩:=HCELL.o k (by have:=HM.o;omega);obtain ⟨y,hy⟩:∃ y,L.getD k 0=y:=⟨_,rfl⟩;have HY:=aH hy;rw [hy] at hc;clear hy;by_cases h2:y < j
   ·
    have HE:=aH (show ∀ i,i < k + 1->L.getD i 0 < j from fun i hi=>by
     by_cases e:i=k
     · subst e;rw [HY.o];exact h2
     · exact HK.o i (by omega))
    go_wp2
    go_roundw
    case rel=>exact ⟨k + 1,by go_num,by omega,HE,trivial⟩
    case measure=>simp [intOf];omega
   ·
    have HPK:=aH (HP.o k (by have:=HM.o;omega) HK.o (fun _=>by rw [HY.o];omega));have h2':decide (y < j)=false:=aF h2;by_cases h3:y=j
    · have HE:=aH (show RES=L from HPK.o.1 ⟨by have:=HM.o;omega,by rw [HY.o];exact h3⟩);subst h3;clear h2;go_wp2;go_ret;exact ⟨_,rfl,by rw [HE.o];have:=HV.o;rw [HM.o] at this;exact this,Below.refl _ _⟩
    ·
     have hkx:RES=L.take k ++ j :: L.drop k:=HPK.o.2 (fun ⟨_,e⟩=>by rw [HY.o] at e;exact h3 e);have h3':(y == j)=false:=aN.2 h3;clear h2 h3 hg hgC HK HPK HY;go_wp2_with fail;have HX:=aH hkx;clear hkx;refine wp_region_any (by kernel_rfl) ?_;try (change wpAny _ _ _ _ _ _ _ (World.drew _))
     refine tA 1 rfl ?_;go_simp;refine tA 2 rfl ?_;go_simp;refine tA 5 rfl ?_;go_simp;refine tA 8 rfl ?_;go_simp;refine tA 9 rfl ?_;go_simp;refine tA 3 rfl ?_;go_simp;refine tA 10 rfl ?_;go_simp
     refine yT (i:=0) (j:=4) (k:=6) (si:=33) (sj:=37) (sk:=39) (I:=fun W=>Below w.heap.size w W) (Ri:=fun q W=>∃ g,q=.slice (some ⟨g,0,none⟩) 0 0/\w.heap.size<=g/\W.heap[g]?=some (.cells #[] 3 (0,0)))
      (Rj:=fun v W=>Win (fun g=>w.heap.size<=g) 3 1 W v k ((L.take k).map (Value.int .i64))) (Rk:=fun x W=>Win (fun g=>w.heap.size<=g) 3 1 W x 1 [.int .i64 j])
      rfl rfl rfl rfl rfl rfl (by decide) (by decide) (by decide) (by decide) (by decide) (by kernel_rfl) (by kernel_rfl) (by kernel_rfl) (by kernel_rfl) (by kernel_rfl) ((Below.refl _ _).drew) ?_ ?_ ?_
      (fun q w1 w2 ⟨g,e,hg,hh⟩ hb=>⟨g,e,hg,(hb.block g (lt_of_block hh)).trans hh⟩) (fun q w1 w2 h hb=>h.below hb) (fun q w1 w2 h hb=>h.below hb) ?_
     · rintro a' (rfl | ⟨x,rfl⟩) W hI;all_goals (refine dB (v:=.slice (some ⟨W.heap.size,0,none⟩) 0 0) (w':=W.alloc (.cells #[] 3)) (by kernel_rfl) (by go_simp) (bA _) (hI.alloc hI.size _) ⟨_,rfl,hI.size,heap_alloc_new W _⟩)
     ·
      rintro q a' ha W hI ⟨gz,rfl,hgz,hhz⟩;have hs:Src Tryz.prog 1 25 (.slice (some (⟨g,off,none⟩:Addr)) k cap) k ((L.take k).map (Value.int .i64)) W:=by
       have hh:=Src.ofInts (w:=W) (C:=C) (ao:=some (⟨g,off,none⟩:Addr)) (cap:=cap) (L:=L.take k) (fun i hi=>by
        have hi2:i < k/\i < L.length:=(by simp at hi;omega);obtain ⟨g',off',e',hg',hgC',hc'⟩:=HCELL.o i hi2.2;refine ⟨g',off',e',aL hg' hI.size,hgC',?_⟩
        rw [aC hc' hI,List.getD_eq_getElem?_getD,List.getD_eq_getElem?_getD,List.getElem?_take,if_pos hi2.1])
       rw [show (L.take k).length=k by have:=HM.o;simp;omega] at hh;exact hh
      obtain ⟨v',w',hr,hw,hb⟩:=kR W 25 25 25 w.heap.size hI.size 3 i0 _ 1 8 Tryz.underlying25 IP.o.1 IP.o.2.1 IP.o.2.2.1 IP.o.2.2.2 rfl (by decide) gz hgz hhz _ k _ hs (by unfold maxLen;omega) (by omega);rcases ha with rfl | ⟨x,rfl⟩;all_goals (exact tH (by kernel_rfl) (.tmp 33) (.tmp 36) 25 25 rfl rfl rfl hr hb (aD hI hb) hw)
     · rintro a' (rfl | ⟨x,rfl⟩ | ⟨x,y,rfl⟩) W hI;all_goals (refine dB (v:=.slice (some ⟨W.heap.size,0,none⟩) 1 1) (w':=W.alloc (.cells #[.int .i64 j] 3)) (by kernel_rfl) (by go_simp) (bA _) (hI.alloc hI.size _) ⟨by simp,.inr ⟨W.heap.size,0,1,_,rfl,hI.size,heap_alloc_new W _,Nat.le_refl _,by unfold maxLen;omega,by simp,by simp⟩⟩)
     rintro q v x W hb hI - hv hx;clear hb;go_simp;have hsx:=Src.ofWin hx (fun u hu=>by simp at hu;subst hu;rfl);refine eY (i:=7) (by kernel_rfl) ?_;refine kK rfl (by kernel_rfl) (.tmp 37) (.tmp 39) 25 25 rfl (fun g=>w.heap.size<=g) 3 i0 _ 1 8 Tryz.underlying25 IP.o.1 IP.o.2.1 IP.o.2.2.1 IP.o.2.2.2 rfl (by decide) v k _ rfl hv x 1 _ rfl hsx (by unfold maxLen;omega) (by omega) ?_;intro v2 W2 h2 b2;have hI2:Below w.heap.size w W2:=hI.trans (b2.below hI.size (fun g h=>h));have hs3:Src Tryz.prog 1 25 (.slice (if cap=k then (some (⟨g,off,none⟩:Addr)) else (some (⟨g,off,none⟩:Addr)).map (·.add k)) (m - k) (cap - k)) (m - k) ((L.drop k).map (Value.int .i64)) W2:=by
      have hh:=Src.ofDrop (w:=W2) (C:=C) (ao:=some (⟨g,off,none⟩:Addr)) (cap:=cap) (k:=k) (L:=L) (by have:=HM.o;omega) (by have:=HM.o;omega) (fun i hi=>by
       obtain ⟨g',off',e',hg',hgC',hc'⟩:=HCELL.o i hi
       exact ⟨g',off',e',aL hg' hI2.size,hgC',aC hc' hI2⟩)
      rw [HM.o] at hh;exact hh
     try simp only [Option.map_some,Addr.add_lit] at hs3
     have h2':=h2.mono (T:=fun g=>w.heap.size<=g) (fun g _ hg=>by rcases hg with hg | hg;exact hg;exact Nat.le_trans hI.size hg);clear h2 hv hx hsx;go_simp;refine eY (i:=11) (by kernel_rfl) ?_;refine kK rfl (by kernel_rfl) (.tmp 40) (.tmp 43) 25 25 rfl (fun g=>w.heap.size<=g) 3 i0 _ 1 8 Tryz.underlying25 IP.o.1 IP.o.2.1 IP.o.2.2.1 IP.o.2.2.2 rfl (by decide) v2 (k + 1) _ rfl h2' _ (m - k) _ rfl hs3 (by unfold maxLen;omega) (by omega) ?_;intro v3 W3 h3 b3;have hI3:Below w.heap.size w W3:=hI2.trans (b3.below hI2.size (fun g h=>h));have h3':=h3.mono (T:=fun g=>w.heap.size<=g) (fun g _ hg=>by rcases hg with hg | hg;exact hg;exact Nat.le_trans hI2.size hg);clear h3 h2' hs3;go_simp;refine tA 12 rfl ?_;go_simp;refine wpAny_done (by kernel_rfl) ?_ _;go_wp2
     all_goals
      go_ret;refine ⟨v3,rfl,?_,hI3⟩;rw [HX.o];exact (Win.ints (n:=k + 1 + (m - k)) (by have:=HM.o;simp;omega) (by simpa [List.map_append] using h3')).mono HC.o
  ·
   have hkx:RES=L.take k ++ j :: L.drop k:=(HP.o k (by have:=HM.o;omega) HK.o (fun h=>by have:=HM.o;omega)).2 (fun ⟨h,_⟩=>by have:=HM.o;omega);clear HK;go_wp2_with fail;have HX:=aH hkx;clear hkx;refine wp_region_any (by kernel_rfl) ?_;try (change wpAny _ _ _ _ _ _ _ (World.drew _))
   refine tA 1 rfl ?_;go_simp;refine tA 2 rfl ?_;go_simp;refine tA 5 rfl ?_;go_simp;refine tA 8 rfl ?_;go_simp;refine tA 9 rfl ?_;go_simp;refine tA 3 rfl ?_;go_simp;refine tA 10 rfl ?_;go_simp
   refine yT (i:=0) (j:=4) (k:=6) (si:=33) (sj:=37) (sk:=39) (I:=fun W=>Below w.heap.size w W) (Ri:=fun q W=>∃ g,q=.slice (some ⟨g,0,none⟩) 0 0/\w.heap.size<=g/\W.heap[g]?=some (.cells #[] 3 (0,0)))
    (Rj:=fun v W=>Win (fun g=>w.heap.size<=g) 3 1 W v k ((L.take k).map (Value.int .i64))) (Rk:=fun x W=>Win (fun g=>w.heap.size<=g) 3 1 W x 1 [.int .i64 j])
    rfl rfl rfl rfl rfl rfl (by decide) (by decide) (by decide) (by decide) (by decide) (by kernel_rfl) (by kernel_rfl) (by kernel_rfl) (by kernel_rfl) (by kernel_rfl) ((Below.refl _ _).drew) ?_ ?_ ?_
    (fun q w1 w2 ⟨g,e,hg,hh⟩ hb=>⟨g,e,hg,(hb.block g (lt_of_block hh)).trans hh⟩) (fun q w1 w2 h hb=>h.below hb) (fun q w1 w2 h hb=>h.below hb) ?_
   · rintro a' (rfl | ⟨x,rfl⟩) W hI;all_goals (refine dB (v:=.slice (some ⟨W.heap.size,0,none⟩) 0 0) (w':=W.alloc (.cells #[] 3)) (by kernel_rfl) (by go_simp) (bA _) (hI.alloc hI.size _) ⟨_,rfl,hI.size,heap_alloc_new W _⟩)
   ·
    rintro q a' ha W hI ⟨gz,rfl,hgz,hhz⟩;have hs:Src Tryz.prog 1 25 (.slice (ao) k cap) k ((L.take k).map (Value.int .i64)) W:=by
     have hh:=Src.ofInts (w:=W) (C:=C) (ao:=ao) (cap:=cap) (L:=L.take k) (fun i hi=>by
      have hi2:i < k/\i < L.length:=(by simp at hi;omega);obtain ⟨g',off',e',hg',hgC',hc'⟩:=HCELL.o i hi2.2;refine ⟨g',off',e',aL hg' hI.size,hgC',?_⟩
      rw [aC hc' hI,List.getD_eq_getElem?_getD,List.getD_eq_getElem?_getD,List.getElem?_take,if_pos hi2.1])
     rw [show (L.take k).length=k by have:=HM.o;simp;omega] at hh;exact hh
    obtain ⟨v',w',hr,hw,hb⟩:=kR W 25 25 25 w.heap.size hI.size 3 i0 _ 1 8 Tryz.underlying25 IP.o.1 IP.o.2.1 IP.o.2.2.1 IP.o.2.2.2 rfl (by decide) gz hgz hhz _ k _ hs (by unfold maxLen;omega) (by omega);rcases ha with rfl | ⟨x,rfl⟩;all_goals (exact tH (by kernel_rfl) (.tmp 33) (.tmp 36) 25 25 rfl rfl rfl hr hb (aD hI hb) hw)
   · rintro a' (rfl | ⟨x,rfl⟩ | ⟨x,y,rfl⟩) W hI;all_goals (refine dB (v:=.slice (some ⟨W.heap.size,0,none⟩) 1 1) (w':=W.alloc (.cells #[.int .i64 j] 3)) (by kernel_rfl) (by go_simp) (bA _) (hI.alloc hI.size _) ⟨by simp,.inr ⟨W.heap.size,0,1,_,rfl,hI.size,heap_alloc_new W _,Nat.le_refl _,by unfold maxLen;omega,by simp,by simp⟩⟩)
   rintro q v x W hb hI - hv hx;clear hb;go_simp;have hsx:=Src.ofWin hx (fun u hu=>by simp at hu;subst hu;rfl);refine eY (i:=7) (by kernel_rfl) ?_;refine kK rfl (by kernel_rfl) (.tmp 37) (.tmp 39) 25 25 rfl (fun g=>w.heap.size<=g) 3 i0 _ 1 8 Tryz.underlying25 IP.o.1 IP.o.2.1 IP.o.2.2.1 IP.o.2.2.2 rfl (by decide) v k _ rfl hv x 1 _ rfl hsx (by unfold maxLen;omega) (by omega) ?_;intro v2 W2 h2 b2;have hI2:Below w.heap.size w W2:=hI.trans (b2.below hI.size (fun g h=>h));have hs3:Src Tryz.prog 1 25 (.slice (if cap=k then (ao) else (ao).map (·.add k)) (m - k) (cap - k)) (m - k) ((L.drop k).map (Value.int .i64)) W2:=by
    have hh:=Src.ofDrop (w:=W2) (C:=C) (ao:=ao) (cap:=cap) (k:=k) (L:=L) (by have:=HM.o;omega) (by have:=HM.o;omega) (fun i hi=>by
     obtain ⟨g',off',e',hg',hgC',hc'⟩:=HCELL.o i hi
     exact ⟨g',off',e',aL hg' hI2.size,hgC',aC hc' hI2⟩)
    rw [HM.o] at hh;exact hh
   try simp only [Option.map_some,Addr.add_lit] at hs3
   have h2':=h2.mono (T:=fun g=>w.heap.size<=g) (fun g _ hg=>by rcases hg with hg | hg;exact hg;exact Nat.le_trans hI.size hg);clear h2 hv hx hsx;go_simp;refine eY (i:=11) (by kernel_rfl) ?_;refine kK rfl (by kernel_rfl) (.tmp 40) (.tmp 43) 25 25 rfl (fun g=>w.heap.size<=g) 3 i0 _ 1 8 Tryz.underlying25 IP.o.1 IP.o.2.1 IP.o.2.2.1 IP.o.2.2.2 rfl (by decide) v2 (k + 1) _ rfl h2' _ (m - k) _ rfl hs3 (by unfold maxLen;omega) (by omega) ?_;intro v3 W3 h3 b3;have hI3:Below w.heap.size w W3:=hI2.trans (b3.below hI2.size (fun g h=>h));have h3':=h3.mono (T:=fun g=>w.heap.size<=g) (fun g _ hg=>by rcases hg with hg | hg;exact hg;exact Nat.le_trans hI2.size hg);clear h3 h2' hs3;go_simp;refine tA 12 rfl ?_;go_simp;refine wpAny_done (by kernel_rfl) ?_ _;go_wp2
   all_goals
    go_ret;refine ⟨v3,rfl,?_,hI3⟩;rw [HX.o];exact (Win.ints (n:=k + 1 + (m - k)) (by have:=HM.o;simp;omega) (by simpa [List.map_append] using h3')).mono HC.o
theorem B5c (o:Int):o=13\/o=9\/o=10\/o=11\/((o == 13)=false/\(o == 9)=false/\(o == 10)=false/\(o == 11)=false):=by simp only [aN];omega
def UL (cut:Bool) (NU M:Nat->Bool) (L:List Nat):Bool:=if cut=true then (eH NU L).any M else L.any M
theorem A6p {cut:Bool} {NU M:Nat->Bool} {L:List Nat} {i q:Nat} (h:L[i]?=some q):UL cut NU M (L.drop i)=(M q || !(cut && !NU q) && UL cut NU M (L.drop (i + 1))):=by
 obtain ⟨h1,h2⟩:=aS.1 h;rw [List.drop_eq_getElem_cons h1,h2]
 cases cut with
 | false=>simp [UL]
 | true =>
  unfold UL;rw [if_pos rfl,if_pos rfl,eH]
  cases NU q <;> simp
theorem B2x (gr:Gj) (a:Gv) (hg:Good gr) (NU M:Nat->Bool) (n u g:Nat) (hn:n < gr.ns.length) (w:World) (hG:dG w gr a) (hu:Own w u 4 (bZ NU gr.ns.length)) (hm:Own w g 4 (bZ M gr.ns.length)) :
  Calls Tryz.prog 73 #[grv gr a,.slice (some ⟨u,0,none⟩) gr.ns.length gr.ns.length,.slice (some ⟨g,0,none⟩) gr.ns.length gr.ns.length,.int .i64 (n:Int)] w fun e w'=>e=.returned (.bool (Pe gr NU M n))/\Below w.heap.size w w':=by
 obtain ⟨x,hx⟩:∃ x,gr.ns[n]?=some x:=⟨_,aG hn⟩;have HRU:=aH (show Pe gr NU M n=(if x.op=13 then true else if x.op=9\/x.op=10 then false else if x.op=11 then M (bY gr n) else if x.op=4 then (eH NU x.ks).any M else x.ks.any M) from by unfold Pe;rw [hx]);have HB1:=gB w a gr;have HO1:=gO w a gr;have HM1:=aH (hm.under HB1.o hm.lt);have HU1:=aH (hu.under HB1.o hu.lt);have HG1:=aH (hG.below HB1.o);obtain ⟨b,off,ko,kc,hno,hb,-,c0,c1,c2,c3,c4,c5,c6,c7,c8,c9,hk⟩:=HG1.o.1 n x hx;have HK1:=aH hk;have HNO:=aH hno;have HQ:=aH (jK hg hn);have HKD:=aH (hg.kid x (aM hx));have hkl:=hg.kl x (aM hx);have HBO:=aH (fun W h=>uQ gr a hg n hn W h);clear hno hk;unfold grv;unfold grv at HBO;obtain ⟨RES,hRES⟩:∃ z,Pe gr NU M n=z:=⟨_,rfl⟩;obtain ⟨nn,nh,nms,nw,hnn,hnh,hnms,hnw⟩:=nG gr;obtain ⟨nk,hnk⟩:∃ z,x.ks.length=z:=⟨_,rfl⟩;have HNK:=aH hnk;obtain ⟨op,hop⟩:∃ z,x.op=z:=⟨_,rfl⟩;obtain ⟨q,hq⟩:∃ z,bY gr n=z:=⟨_,rfl⟩;have hn160:nn<=160:=by rw [<- hnn];exact hg.len
 rw [hnn] at hn;rw [hRES,hop,hq] at HRU;rw [hq,hnn] at HQ;rw [hnn] at HKD;rw [hnk] at hkl;rw [hnn,hnh,hnms,hnw,hq] at HBO;rw [hnn,hnh,hnms,hnw] at HB1 HO1 HM1 HU1 HG1 HK1 c0 c1 c2 c3 c4 c5 c6 c7 c8 c9 hb;rw [hnk] at c6;rw [hop] at c0;rw [hRES,hnn,hnh,hnms,hnw];have hn1:decide ((n:Int) < (nn:Int))=true:=aT (by omega);have hn2:decide (n < nn)=true:=aT hn;obtain ⟨B,hB⟩:∃ B,w.heap.size=B:=⟨_,rfl⟩;have HW1:=aH (show (w.alloc (.cells #[.slice a.mo nms a.mc,.slice a.no nn a.nc,.slice a.ho nh a.hc,.slice a.wo nw a.wc,.int .i64 gr.st] 27)).heap.size=B + 1 from by rw [<- hB];simp);rw [hB] at HO1;clear hx hg hG hm hu hRES hnn hnh hnms hnw hnk hop hq;go_enter Tryz.func73,Tryz.ntmps73;go_upto_region 1 with fail;generalize w.alloc (.cells #[.slice a.mo nms a.mc,.slice a.no nn a.nc,.slice a.ho nh a.hc,.slice a.wo nw a.wc,.int .i64 gr.st] 27)=w1 at *;try rw [hB]
 clear hB;obtain ⟨g0,g1,g2,g3,g4,gl⟩:=oG HO1.o;rw [HNO.o] at g1;have hbl:Below w1.heap.size w1 (w1.alloc (.cells #[.int .i64 op,.string x.tx,.int .u64 x.s0,.int .u64 x.s1,.int .u64 x.s2,.int .u64 x.s3,.slice ko nk kc,.int .i64 x.tg,.int .i64 (x.mo:Int),.int .i64 x.ru] 45)):=bA _;have HBL:=aH hbl;have HB2:=aH (HB1.o.trans (hbl.mono HB1.o.size));have HM2:=aH (HM1.o.under hbl HM1.o.lt);have HU2:=aH (HU1.o.under hbl HU1.o.lt);have HG2:=aH (HG1.o.below hbl);have HK2:=aH (HK1.o.below hbl);have HO2:=aH (HO1.o.under hbl HO1.o.lt);have HN2:=aH (Own.fresh w1 45 [.int .i64 op,.string x.tx,.int .u64 x.s0,.int .u64 x.s1,.int .u64 x.s2,.int .u64 x.s3,.slice ko nk kc,.int .i64 x.tg,.int .i64 (x.mo:Int),.int .i64 x.ru]);rw [HW1.o] at HN2;clear hbl;go_upto_region 2 with fail;generalize w1.alloc (.cells #[.int .i64 op,.string x.tx,.int .u64 x.s0,.int .u64 x.s1,.int .u64 x.s2,.int .u64 x.s3,.slice ko nk kc,.int .i64 x.tg,.int .i64 (x.mo:Int),.int .i64 x.ru] 45)=w2 at *;try rw [HW1.o]
 have y0:w2.cell? ⟨B + 1,0,none⟩=some (.int .i64 op):=HN2.o.cell 0;have y3:w2.cell? ⟨B + 1,6,none⟩=some (.slice ko nk kc):=HN2.o.cell 6;have yl:=HN2.o.lt;clear c0 c1 c2 c3 c4 c5 c6 c7 c8 c9 g0 g1 g2 g3 g4 gl hb HO1 HM1 HU1 HG1 HK1 HB1;rcases B5c op with rfl | rfl | rfl | rfl | ⟨h13,h9,h10,h11⟩
 · have HE:=aH (show RES=true from by rw [HRU.o];first | rfl | simp);go_wp2;go_ret;rw [HE.o];exact ⟨rfl,HB2.o⟩
 · have HE:=aH (show RES=false from by rw [HRU.o];first | rfl | simp);go_wp2;go_ret;rw [HE.o];exact ⟨rfl,HB2.o⟩
 · have HE:=aH (show RES=false from by rw [HRU.o];first | rfl | simp);go_wp2;go_ret;rw [HE.o];exact ⟨rfl,HB2.o⟩
 ·
  have HE:=aH (show RES=M q from by rw [HRU.o];first | rfl | simp);obtain ⟨d0,d1,d2,d3,d4,dl⟩:=oG HO2.o;go_wp2_with fail;refine (HBO.o w2 HG2.o).mono ?_;rintro e w3 ⟨he,hb3⟩;subst he;have HM3:=aH (HM2.o.under hb3 HM2.o.lt);have HB3:=aH (HB2.o.trans (hb3.mono HB2.o.size));have hqn:=HQ.o;have m0:w3.cell? ⟨g,q,none⟩=some (.bool (M q)):=by rw [HM3.o.cell q];exact bH M nn q hqn
  have ml:=HM3.o.lt;have hq1:decide ((q:Int) < (nn:Int))=true:=aT (by omega);have hq2:decide (q < nn)=true:=aT hqn;obtain ⟨z,hz⟩:∃ z,M q=z:=⟨_,rfl⟩;rw [hz] at m0 HE;clear hb3 hz;go_wp2;go_ret;rw [HE.o];exact ⟨rfl,HB3.o⟩
 ·
  obtain ⟨cut,hcu⟩:∃ z,(op == 4)=z:=⟨_,rfl⟩
  have HE0:=aH (show RES=UL cut NU M (x.ks.drop 0) from by
   rw [HRU.o];simp only [aN] at h13 h9 h10 h11;rw [if_neg h13,if_neg (fun h=>h.elim h9 h10),if_neg h11];unfold UL;rw [<- hcu];show _=if (op == 4)=true then (eH NU x.ks).any M else x.ks.any M;by_cases e:op=4
   · rw [if_pos e,if_pos (by rw [e];rfl)]
   · rw [if_neg e,if_neg (by rw [aN.2 e];decide)])
  have ml:=HM2.o.lt;have ul:=HU2.o.lt;go_wp2_with fail
  go_loopw [10] (fun v10 wr=>∃ i:Nat,v10=.int .i64 (i:Int)/\(i:Int)<=nk/\aQ (RES=UL cut NU M (x.ks.drop i))/\wr=w2) (fun v10 _=>nk - (intOf v10).toNat)
  case atStart=>exact ⟨0,rfl,by omega,HE0,(by first | trivial | rfl)⟩
  case round =>
   obtain ⟨i,rfl,hi,HE1,hwr⟩:=hrel;subst hwr;clear HE0;by_cases hin:(i:Int) < nk
   ·
    have hi1:decide ((i:Int) < (nk:Int))=true:=aT hin;have hi2:decide (i < nk)=true:=aT (by omega);have hw2:IntKind.i64.wrap ((i:Int) + 1)=(i:Int) + 1:=wI;obtain ⟨q1,hq⟩:∃ q,x.ks[i]?=some q:=⟨_,aG (by have:=HNK.o;omega)⟩;have hqn:q1 < nn:=HKD.o q1 (aM hq);have HST:=aH (A6p (cut:=cut) (NU:=NU) (M:=M) hq);obtain ⟨b2,off2,hko,hb2,-,q0⟩:=HK2.o i q1 hq;subst hko;have m0:wr.cell? ⟨g,q1,none⟩=some (.bool (M q1)):=(by rw [HM2.o.cell q1];exact bH M nn q1 hqn);have u0:wr.cell? ⟨u,q1,none⟩=some (.bool (NU q1)):=(by rw [HU2.o.cell q1];exact bH NU nn q1 hqn);have hq1:decide ((q1:Int) < (nn:Int))=true:=aT (by omega);have hq2:decide (q1 < nn)=true:=aT hqn;obtain ⟨z,hz⟩:∃ z,M q1=z:=⟨_,rfl⟩;obtain ⟨y,hy⟩:∃ z,NU q1=z:=⟨_,rfl⟩;rw [hz,hy] at HST;rw [hz] at m0;rw [hy] at u0;clear hz hy hq
    cases z with
    | true =>
     have HE:=aH (show RES=true from by rw [HE1.o,HST.o];rfl);go_wp2;go_ret;rw [HE.o];exact ⟨rfl,HB2.o⟩
    | false =>
     cases cut with
     | false =>
      have HE2:=aH (show RES=UL false NU M (x.ks.drop (i + 1)) from by rw [HE1.o,HST.o];simp);go_wp2
      go_roundw
      case rel=>exact ⟨i + 1,by go_num,by omega,HE2,(by first | trivial | rfl)⟩
      case measure=>simp [intOf];omega
     | true =>
      cases y with
      | true =>
       have HE2:=aH (show RES=UL true NU M (x.ks.drop (i + 1)) from by rw [HE1.o,HST.o];simp);go_wp2
       go_roundw
       case rel=>exact ⟨i + 1,by go_num,by omega,HE2,(by first | trivial | rfl)⟩
       case measure=>simp [intOf];omega
      | false =>
       have HE:=aH (show RES=false from by rw [HE1.o,HST.o];rfl);go_wp2;go_ret;rw [HE.o];exact ⟨rfl,HB2.o⟩
   · have hi1:decide ((i:Int) < (nk:Int))=false:=aF hin;have hi2:decide (i < nk)=false:=aF (by omega);have HE:=aH (show RES=false from by rw [HE1.o,List.drop_of_length_le (by have:=HNK.o;omega)];cases cut <;> rfl);go_wp2;go_ret;rw [HE.o];exact ⟨rfl,HB2.o⟩
theorem KW (gr:Gj) (a:Gv) (hg:Good gr) (w:World) (hG:dG w gr a):Calls Tryz.prog 46 #[grv gr a] w (BoE gr (nH gr) w):=by
 have HB1:=gB w a gr;have HO1:=gO w a gr;have HG1:=aH ((hG.mono (T:=fun b=>b < w.heap.size) (fun _ h _=>h)).below HB1.o);have HNU:=aH (fun W h=>nW gr a hg W h);have HF:=aH (fun (M:Nat->Bool) n u g W hn h1 h2 h3=>B2x gr a hg (aZ gr) M n u g hn W h1 h2 h3);obtain ⟨R,hR⟩:∃ R,Pe gr (aZ gr)=R:=⟨_,rfl⟩;obtain ⟨RES,hRES⟩:∃ z,nH gr=z:=⟨_,rfl⟩;have HR0:=aH (show gK R gr.ns.length (gr.ns.length + 1) (fun _=>false)=RES from by rw [<- hR,<- hRES];rfl);unfold BoE;rw [hRES];rw [hR] at HF;unfold BoE at HNU;unfold grv;unfold grv at HNU HF;obtain ⟨nn,nh,nms,nw,hnn,hnh,hnms,hnw⟩:=nG gr;have hn160:(nn:Int)<=160:=by have:=hg.len;omega
 rw [hnn] at HR0;rw [hnn,hnh,hnms,hnw] at HNU HF HB1 HO1 HG1;rw [hnn,hnh,hnms,hnw];obtain ⟨B,hB⟩:∃ B,w.heap.size=B:=⟨_,rfl⟩;have HW1:=aH (show (w.alloc (.cells #[.slice a.mo nms a.mc,.slice a.no nn a.nc,.slice a.ho nh a.hc,.slice a.wo nw a.wc,.int .i64 gr.st] 27)).heap.size=B + 1 from by rw [<- hB];simp);have HBE:=aH hB;rw [hB] at HO1;clear hg hG hRES hR hnn hnh hnms hnw;have hmk:∀ W:World,(Instr.makeSlice 39 (.int .i64 (nn:Int)) (.int .i64 (nn:Int))).run Tryz.prog W=.ok (.slice (some ⟨W.heap.size,0,none⟩) nn nn) (W.alloc (.cells (Array.replicate nn (Value.bool false)) 4)):=fun W=>mY nn (by omega) W;go_enter Tryz.func46,Tryz.ntmps46;go_upto_region 1 with fail;generalize w.alloc (.cells #[.slice a.mo nms a.mc,.slice a.no nn a.nc,.slice a.ho nh a.hc,.slice a.wo nw a.wc,.int .i64 gr.st] 27)=w1 at *;try rw [hB]
 clear hB;obtain ⟨g0,g1,g2,g3,g4,gl⟩:=oG HO1.o;go_wp2_with fail;refine (HNU.o w1 (HG1.o.mono fun _ _ _=>trivial)).mono ?_;rintro e w2 ⟨u,he,hu,hul,hb2⟩;subst he;have HB2:=aH (HB1.o.trans (hb2.mono HB1.o.size));have HO2:=aH (HO1.o.under hb2 HO1.o.lt);have HG2:=aH (HG1.o.below hb2);have HU2:=aH hu;have HUL:=aH (show B + 1<=u from by have:=HW1.o;omega);clear g0 g1 g2 g3 g4 gl hu hul hb2 HO1 HG1 HB1;have g1:w2.cell? ⟨B,1,none⟩=some (.slice a.no nn a.nc):=HO2.o.cell 1;have gl:=HO2.o.lt;have hbl:Below w2.heap.size w2 (w2.alloc (.cells (Array.replicate nn (Value.bool false)) 4)):=bA _;have HB3:=aH (HB2.o.trans (hbl.mono HB2.o.size));have HG3:=aH (HG2.o.below hbl);have HO3:=aH (HO2.o.under hbl HO2.o.lt);have HU3:=aH (HU2.o.under hbl HU2.o.lt);have HM3:=aH (show Own (w2.alloc (.cells (Array.replicate nn (Value.bool false)) 4)) w2.heap.size 4 (bZ (fun _=>false) nn) from by rw [nT,<- List.toArray_replicate];exact Own.fresh w2 4 _);have HU2l:=aH HU2.o.lt;have HO2l:=aH HO2.o.lt;clear hbl;go_upto_region 4 with fail;obtain ⟨C,hC⟩:∃ C,w2.heap.size=C:=⟨_,rfl⟩;rw [hC] at HM3 HU2l HO2l;generalize w2.alloc (.cells (Array.replicate nn (Value.bool false)) 4)=w3 at *;try rw [hC]
 clear hC g1 gl hmk HO2 HG2 HB2 HU2
 go_loopg [5] (nn + 1) (fun f v5 wr=>∃ (M:Nat->Bool) (z:Bool),v5=.bool z/\aQ (RES=if z=true then gK R nn f M else M)/\aQ (z=true->bF M nn < f)/\aQ (Own wr C 4 (bZ M nn))/\aQ (Own wr B 27 [.slice a.mo nms a.mc,.slice a.no nn a.nc,.slice a.ho nh a.hc,.slice a.wo nw a.wc,.int .i64 gr.st])/\aQ (Own wr u 4 (bZ (aZ gr) nn))/\aQ (mG wr (fun b=>b < w.heap.size) gr a)/\aQ (Below w.heap.size w wr))
 case atStart=>exact ⟨fun _=>false,true,rfl,aH (by rw [if_pos rfl];exact HR0.o.symm),aH (fun _=>by have:=iQ (fun _=>false) nn;omega),HM3,HO3,HU3,HG3,HB3⟩
 case round =>
  obtain ⟨M,z,rfl,HS,HLK,HM,HO,HU,HG,HB⟩:=hrel
  cases z with
  | false =>
   have HE:=aH (show RES=M from by rw [HS.o,if_neg (by decide)]);go_wp2;go_ret;exact ⟨C,rfl,by rw [HE.o];exact HM.o,by have:=HBE.o;have:=HO2l.o;omega,HB.o⟩
  | true =>
   obtain ⟨f,rfl⟩:∃ f,gk=f + 1:=⟨gk - 1,by have:=HLK.o rfl;omega⟩;have HS1:=aH (show RES=gK R nn (f + 1) M from by rw [HS.o,if_pos rfl]);have HL1:=aH (HLK.o rfl);clear HM3 HO3 HG3 HB3 HU3 HS HLK;have g1:wr.cell? ⟨B,1,none⟩=some (.slice a.no nn a.nc):=HO.o.cell 1;have gl:=HO.o.lt;go_wp2_with fail
   go_loopg [5,6] nn (fun j v5 v17 wx=>∃ (k:Nat) (M1:Nat->Bool) (z:Bool),v5=.bool z/\v17=.int .i64 (k:Int)/\k + j=nn/\aQ (dP R nn 0 M false=dP R (nn - k) k M1 z)/\aQ (bF M1 nn + (if z=true then 1 else 0)<=bF M nn)/\aQ (Own wx C 4 (bZ M1 nn))/\aQ (Own wx B 27 [.slice a.mo nms a.mc,.slice a.no nn a.nc,.slice a.ho nh a.hc,.slice a.wo nw a.wc,.int .i64 gr.st])/\aQ (Own wx u 4 (bZ (aZ gr) nn))/\aQ (mG wx (fun b=>b < w.heap.size) gr a)/\aQ (Below w.heap.size w wx))
   case atStart=>exact ⟨0,M,false,rfl,rfl,by omega,aH rfl,aH (Nat.le_refl _),HM,HO,HU,HG,HB⟩
   case round =>
    obtain ⟨k,M1,z,rfl,rfl,hkj,HP,HL,HMx,HOx,HUx,HGx,HBx⟩:=hrel;clear HM HO HG HB HU g1 gl;by_cases hk:k < nn
    ·
     obtain ⟨j,rfl⟩:∃ j,gk=j + 1:=⟨gk - 1,by omega⟩;have hk1:decide ((k:Int) < (nn:Int))=true:=aT (by omega);have hk2:decide (k < nn)=true:=aT hk;have hw1:IntKind.i64.wrap ((k:Int) + 1)=(k:Int) + 1:=wI;have m0:wr.cell? ⟨C,k,none⟩=some (.bool (M1 k)):=(by rw [HMx.o.cell k];exact bH M1 nn k hk);have ml:=HMx.o.lt;obtain ⟨g0,g1,g2,g3,g4,gl⟩:=oG HOx.o;obtain ⟨b1,hb1⟩:∃ z,M1 k=z:=⟨_,rfl⟩;have HBK:=aH hb1;rw [hb1] at m0;clear hb1
     cases b1 with
     | true =>
      have HPN:=aH (show dP R nn 0 M false=dP R (nn - (k + 1)) (k + 1) M1 z from HP.o.trans (mW hk (by rw [HBK.o];rfl)));go_wp2
      go_roundg j
      case measure=>omega
      case rel=>exact ⟨k + 1,M1,z,rfl,by go_num,by omega,HPN,HL,HMx,HOx,HUx,HGx,HBx⟩
     | false =>
      have HC:=aH (HF.o M1 k u C wr hk (HGx.o.mono fun _ _ _=>trivial) HUx.o HMx.o);go_wp2_with fail;refine HC.o.mono ?_;rintro e wy ⟨he,hby⟩;subst he;have HMy:=aH (HMx.o.under hby HMx.o.lt);have HOy:=aH (HOx.o.under hby HOx.o.lt);have HUy:=aH (HUx.o.under hby HUx.o.lt);have HGy:=aH (HGx.o.below hby);have HBy:=aH (HBx.o.trans (hby.mono HBx.o.size));clear hby HMx HOx HUx HGx HBx g0 g1 g2 g3 g4 gl m0 ml HC;obtain ⟨r,hr⟩:∃ z,R M1 k=z:=⟨_,rfl⟩;have HRK:=aH hr;rw [hr];clear hr
      cases r with
      | false =>
       have HPN:=aH (show dP R nn 0 M false=dP R (nn - (k + 1)) (k + 1) M1 z from HP.o.trans (mW hk (by rw [HBK.o,HRK.o];rfl)));go_wp2
       go_roundg j
       case measure=>omega
       case rel=>exact ⟨k + 1,M1,z,rfl,by go_num,by omega,HPN,HL,HMy,HOy,HUy,HGy,HBy⟩
      | true =>
       have HPN:=aH (show dP R nn 0 M false=dP R (nn - (k + 1)) (k + 1) (dC M1 k) true from HP.o.trans (Bp hk HBK.o HRK.o))
       have HLN:=aH (show bF (dC M1 k) nn + (if true=true then 1 else 0)<=bF M nn from by
        have h1:=iR M1 k HBK.o nn;have h2:=gZ M1 k HBK.o nn hk;rw [if_pos hk] at h1;have h3:=HL.o;rw [h1,if_pos rfl]
        omega)
       have m0:wy.cell? ⟨C,k,none⟩=some (.bool false):=(by rw [HMy.o.cell k,bH M1 nn k hk,HBK.o]);have f0:wy.frozen? ⟨C,k,none⟩=false:=HMy.o.thaw k;have ml:=HMy.o.lt;have hbt:But (fun j=>j=C) wy (wy.setCell ⟨C,k,none⟩ (.bool true)):=(But.refl (fun j=>j=C) wy).setCell (p:=⟨C,k,none⟩) (fun _=>rfl) _;have HMz:=aH (show Own (wy.setCell ⟨C,k,none⟩ (.bool true)) C 4 (bZ (dC M1 k) nn) from by rw [<- qX M1 nn k hk];exact HMy.o.put k (.bool true));have HOz:=aH (HOy.o.but hbt (by have:=HO2l.o;show ¬ B=C;omega));have HUz:=aH (HUy.o.but hbt (by have:=HU2l.o;show ¬ u=C;omega));have HGz:=aH (HGy.o.but hbt (fun j _ hj h=>by have:=HBE.o;have:=HO2l.o;have:j=C:=h;omega));have HBz:=aH (HBy.o.trans (hbt.below (B:=w.heap.size) HBy.o.size (fun j h=>by have:=HBE.o;have:=HO2l.o;omega)));clear hbt;go_wp2
       go_roundg j
       case measure=>omega
       case rel=>exact ⟨k + 1,dC M1 k,true,rfl,by go_num,by omega,HPN,HLN,HMz,HOz,HUz,HGz,HBz⟩
    ·
     have hk1:decide ((k:Int) < (nn:Int))=false:=aF (by omega);have hk2:decide (k < nn)=false:=aF hk;have HP2:=aH (show dP R nn 0 M false=(M1,z) from HP.o.trans (by rw [show nn - k=0 by omega];rfl))
     have HSN:=aH (show RES=if z=true then gK R nn f M1 else M1 from by
      rw [HS1.o]
      show (match dP R nn 0 M false with
       | (M',true)=>gK R nn f M'
       | (M',false)=>M')=_
      rw [HP2.o]
      cases z <;> rfl)
     have HLN:=aH (show z=true->bF M1 nn < f from fun h=>by
      have h1:=HL.o;have h2:=HL1.o;rw [if_pos h] at h1
      omega)
     go_wp2
     go_roundg f
     case measure=>omega
     case rel=>exact ⟨M1,z,rfl,HSN,HLN,HMx,HOx,HUx,HGx,HBx⟩
end Go.Proofs.YthddifjhoniacaaGreat
