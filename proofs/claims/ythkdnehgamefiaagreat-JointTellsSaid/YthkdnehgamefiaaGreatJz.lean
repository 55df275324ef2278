import Derived.Test.YthkdnehgamefiaaGreatJy
import Derived.Deep.CutBlock
namespace Go.Proofs.YthkdnehgamefiaaGreat
set_option linter.unusedVariables false
set_option maxHeartbeats 6400000
set_option maxRecDepth 1000000
open Go.RowKit Go.Sort
def Okm (m:Md):Prop:=Wel m/\m.im.length<=4/\m.ru.length<=24
theorem yG {l:List ByteArray} {ML:List Md} (h:mX l=some ML):(∀ m ∈ ML,Okm m)/\ML.length<=5:=by obtain ⟨h1,h2,h3⟩:=KD h;exact ⟨fun m hm=>⟨Vg h m hm,h3 m hm⟩,(qW h).2⟩
theorem GI:∀ (ML:List Md) (s:Nat),(kU ML s).length=ML.length
 | [],s=>rfl
 | m :: r,s=>by unfold kU;simp [GI r]
theorem B0G (ML:List Md) (m:Md) (r:List Md) (i s:Nat) (F:Option Ft3):hd1 ML (m :: r) i s F=hd1 ML r (i + 1) (s + m.ru.length) (orF (orF F (hdE ML i m)) (if 24 < s + m.ru.length then some (3,(i:Int),-1) else none)):=rfl
theorem B0H (ML:List Md) (m:Md) (r:List Md) (i:Nat) (F:Option Ft3):hd2 ML (m :: r) i F=hd2 ML r (i + 1) (imF ML i m.im F):=rfl
theorem B0P (ML:List Md) (i:Nat) (x:ByteArray) (r:List ByteArray) (F:Option Ft3):imF ML i (x :: r) F=imF ML i r (if cB ML x < 0 then orF F (some (5,(i:Int),-1)) else F):=rfl
theorem A0t (F:Option Ft3):orF F none=F:=by cases F <;> rfl
theorem A3N (ML:List Md) (mo:Option Addr) (mc:Nat) (w0:World) (D0:Nat) (hM:fK w0 D0 mo ML) (hok:∀ m ∈ ML,Okm m) (h5:ML.length<=8) (g:Nat) (w:World) (ct:Nat->Nat) (rows:Rw) (v:Nat->Value) (h:Wk w0 w g ct rows v (.slice mo ML.length mc) 0 none) (hr5:rows 5=(0,[])) :
  Calls Tryz.prog 26 #[.pointer (some ⟨g,0,none⟩)] w fun e w'=>e=.returned (.tuple #[])/\∃ c' v',Wk w0 w' g c' (upd rows 5 (ML.length,lD (kU ML 0))) v' (.slice mo ML.length mc) 0 (hdO ML):=by
 have HFI:=aH (fun (s:ByteArray) W (hW:fK W D0 mo ML)=>Ad ML D0 mo mc s (by omega) W hW);have HMS:=aH (fun (W:World) (h:Below w0.heap.size w0 W)=>hM.below h);have HM0:=aH hM;have HOK:=aH hok
 have H0:=aH (h.rows_eq (rows':=upd rows 5 (0,lD [])) fun i _ _=>by
  by_cases e:i=5
  · subst e;rw [upd_same,hr5];rfl
  · rw [iB _ _ e])
 obtain ⟨RES,hRES⟩:∃ r,hdO ML=r:=⟨_,rfl⟩;obtain ⟨R1,hR1⟩:∃ r,hd1 ML ML 0 0 none=r:=⟨_,rfl⟩;have HR2:=aH (show RES=hd2 ML (ML.drop 0) 0 R1 from by rw [<- hRES,<- hR1,List.drop_zero];rfl);have HR1:=aH (show R1=hd1 ML (ML.drop 0) 0 0 none from by rw [List.drop_zero];exact hR1.symm);have HF0:=aH (show kU ML 0=[] ++ kU (ML.drop 0) 0 from by rw [List.drop_zero];rfl);obtain ⟨FL,hFL⟩:∃ r,kU ML 0=r:=⟨_,rfl⟩;have HFL:=aH (show FL.length=ML.length from by rw [<- hFL];exact GI ML 0);rw [hFL] at HF0;obtain ⟨nm,hnm⟩:∃ n,ML.length=n:=⟨_,rfl⟩;have HNM:=aH hnm;rw [hnm] at H0 HFI h5 HFL;rw [hRES,hFL,hnm];clear hM hok h hr5 hRES hR1 hFL hnm;go_enter Tryz.func26,Tryz.ntmps26;go_wp2_with fail
 go_loopw [2,3] (fun v2 v3 wr=>∃ (k s:Nat) (F:Option Ft3) (c:Nat->Nat) (v:Nat->Value) (G:List Nat),v2=.int .i64 (s:Int)/\v3=.int .i64 (k:Int)/\(k:Int)<=nm/\aQ (s<=24 * k)/\aQ (Wk w0 wr g c (upd rows 5 (k,lD G)) v (.slice mo nm mc) 0 F)/\aQ (R1=hd1 ML (ML.drop k) k s F)/\aQ (FL=G ++ kU (ML.drop k) s/\G.length=k)) (fun _ v3 _=>nm - (intOf v3).toNat)
 case atStart=>exact ⟨0,0,none,ct,v,[],rfl,rfl,by omega,aH (by omega),H0,HR1,aH ⟨HF0.o,rfl⟩⟩
 case round =>
  obtain ⟨k,s,F,c,v,G,rfl,rfl,hk,HS,HW,HR,HG⟩:=hrel;clear H0 HR1 HF0;have ho:Own wr g 71 [.slice mo nm mc,v 1,v 2,v 3,v 4,.int .i64 0,v 5,.int .i64 (e3 F),.int .i64 0,.int .i64 (m3 F),.int .i64 (r3 F)]:=HW.o.own;have c0:wr.cell? ⟨g,0,none⟩=some (.slice mo nm mc):=ho.cell 0;have hgl:=ho.lt;by_cases hkn:(k:Int) < nm
  ·
   have hkn1:decide ((k:Int) < nm)=true:=aT hkn;have hkn2:decide (k < nm)=true:=aT (by omega);obtain ⟨m,hm⟩:∃ m,ML[k]?=some m:=⟨_,aG (by have:=HNM.o;omega)⟩;obtain ⟨nn,hMr⟩:=HM0.o;obtain ⟨mb,moff,io,ic,ko,kc,ro,rc,hmo,hmb,⟨-,hic,hrc⟩,d0,d1,d2,d3,d4,d5,d6,d7,d8,d9,dA,hnr,hke,hru⟩:=hMr k m hm;have hbl:=HW.o.bl;have e0:=aC d0 hbl;have e1:=aC d1 hbl;have e2:=aC d2 hbl;have e3:=aC d3 hbl;have e4:=aC d4 hbl;have e5:=aC d5 hbl;have e6:=aC d6 hbl;have e7:=aC d7 hbl;have e8:=aC d8 hbl;have e9:=aC d9 hbl;have eA:=aC dA hbl;have hmb2:mb < wr.heap.size:=aL hmb hbl.size;have HOM:=aH (HOK.o m (aM hm));have HRG:=aH (fun W (hW:Below w0.heap.size w0 W)=>A1n m D0 nn io ic ko kc ro rc HOM.o.1 HOM.o.2.1 HOM.o.2.2 hic W (hnr.hasN.below hW) (aV.below hW (aV.fit HOM.o.1.wa.2 hke.hask)) (hru.but (But.of_below (S:=fun _=>False) hW) (fun _ h=>h.elim)))
   have HDR:=aH (show ML.drop k=m :: ML.drop (k + 1) from by
    obtain ⟨h1,h2⟩:=aS.1 hm
    rw [List.drop_eq_getElem_cons h1,h2])
   have HRS:=aH (show R1=hd1 ML (ML.drop (k + 1)) (k + 1) (s + m.ru.length) (orF (orF F (hdE ML k m)) (if 24 < s + m.ru.length then some (3,(k:Int),-1) else none)) from by rw [HR.o,HDR.o,B0G])
   have HGS:=aH (show FL=(G ++ [s]) ++ kU (ML.drop (k + 1)) (s + m.ru.length)/\(G ++ [s]).length=k + 1 from by
    refine ⟨?_,by rw [List.length_append,HG.o.2];rfl⟩
    rw [HG.o.1,HDR.o,List.append_assoc];rfl)
   have HMO:=aH hmo;subst hmo;have HB1:=aH (show Below wr.heap.size wr (wr.alloc (.cells #[.string m.nm,.slice io m.im.length ic,.bool m.wet,.int .i64 m.wa.op,.string m.wa.text,.int .u64 m.wa.s0,.int .u64 m.wa.s1,.int .u64 m.wa.s2,.int .u64 m.wa.s3,.slice ko m.wa.kids.length kc,.slice ro m.ru.length rc] 35)) from bA _);have HX1:=aH (Own.fresh wr 35 [.string m.nm,.slice io m.im.length ic,.bool m.wet,.int .i64 m.wa.op,.string m.wa.text,.int .u64 m.wa.s0,.int .u64 m.wa.s1,.int .u64 m.wa.s2,.int .u64 m.wa.s3,.slice ko m.wa.kids.length kc,.slice ro m.ru.length rc]);have HW1:=aH (HW.o.below HB1.o);have hw1:IntKind.i64.wrap ((k:Int) + 1)=(k:Int) + 1:=wI;obtain ⟨A,hA⟩:∃ A,wr.heap.size=A:=⟨_,rfl⟩;have HA:=aH hA;have h24:=HOM.o.2.2;clear hm hMr hic hrc d0 d1 d2 d3 d4 d5 d6 d7 d8 d9 dA hnr hke hru hmb HR HG HDR ho hbl
   have HCA:=aH (show c A=0/\¬ A=g from by
    refine ⟨?_,fun e=>by have h1:=HW.o.own.lt;have h2:=HA.o;omega⟩;by_cases e:c A=0
    · exact e
    · have:=(HW.o.dom A e).2;have h2:=HA.o;omega)
   go_upto_block 2 with fail
   generalize hw1:wr.alloc (.cells #[.string m.nm,.slice io m.im.length ic,.bool m.wet,.int .i64 m.wa.op,.string m.wa.text,.int .u64 m.wa.s0,.int .u64 m.wa.s1,.int .u64 m.wa.s2,.int .u64 m.wa.s3,.slice ko m.wa.kids.length kc,.slice ro m.ru.length rc] 35)=w1 at *;rw [hA] at HX1;try rw [hA]
   clear hw1 hA e0 e1 e2 e3 e4 e5 e6 e7 e8 e9 eA hmb2 c0 hgl
   go_cut [] (fun wx=>aQ (Wk w0 wx g c (upd rows 5 (k,lD G)) v (.slice (some ⟨mb,moff,none⟩) nm mc) 0 (orF F (hdE ML k m)))/\aQ (Own wx A 35 [.string m.nm,.slice io m.im.length ic,.bool m.wet,.int .i64 m.wa.op,.string m.wa.text,.int .u64 m.wa.s0,.int .u64 m.wa.s1,.int .u64 m.wa.s2,.int .u64 m.wa.s3,.slice ko m.wa.kids.length kc,.slice ro m.ru.length rc]))
   case first =>
    have HAG:=aH (show ¬ A=g from fun e=>by have h1:=HW.o.own.lt;have h2:=HA.o;omega);by_cases h4k:4<=k
    ·
     have h4a:decide ((4:Int)<=(k:Int))=true:=aT (by omega);have h4b:decide (4<=k)=true:=aT h4k;have HE:=aH (show hdE ML k m=some (3,(k:Int),-1) from if_pos h4k);go_wp2_with fail;refine (nO 3 (k:Int) (-1) (by decide) HW1.o).mono ?_;rintro e w2 ⟨rfl,hW2,hb2⟩;have HW2:=aH hW2;have HX2:=aH (HX1.o.but hb2 HAG.o);clear hW2 hb2;go_wp2
     go_meet
     rw [HE.o];exact ⟨HW2,HX2⟩
    ·
     have h4a:decide ((4:Int)<=(k:Int))=false:=aF (by omega);have h4b:decide (4<=k)=false:=aF h4k;have HE1:=aH (show hdE ML k m=if Qx m=false then some (1,(k:Int),-1) else if cB ML m.nm=(k:Int) then none else some (4,(k:Int),-1) from if_neg h4k);have HRC:=aH (HRG.o w1 HW1.o.bl);obtain ⟨zr,hzr⟩:∃ z,Qx m=z:=⟨_,rfl⟩;rw [hzr] at HRC HE1;clear hzr h4k;obtain ⟨x0,x1,x2,x3,x4,x5,x6,x7,x8,x9,xA⟩:=HX1.o.elev;have xl:=HX1.o.lt;go_wp2_with fail;refine HRC.o.mono ?_;rintro e w2 ⟨rfl,hb2⟩;have HW2:=aH (HW1.o.below hb2);have HX2:=aH (HX1.o.under hb2 HX1.o.lt);clear hb2 x0 x1 x2 x3 x4 x5 x6 x7 x8 x9 xA xl
     cases zr with
     | false =>
      have HE:=aH (show hdE ML k m=some (1,(k:Int),-1) from by rw [HE1.o];rfl);go_wp2_with fail;refine (nO 1 (k:Int) (-1) (by decide) HW2.o).mono ?_;rintro e w3 ⟨rfl,hW3,hb3⟩;have HW3:=aH hW3;have HX3:=aH (HX2.o.but hb3 HAG.o);clear hW3 hb3;go_wp2
      go_meet
      rw [HE.o];exact ⟨HW3,HX3⟩
     | true =>
      have x0:w2.cell? ⟨A,0,none⟩=some (.string m.nm):=HX2.o.cell 0;have xl:=HX2.o.lt;have ho2:Own w2 g 71 [.slice (some ⟨mb,moff,none⟩) nm mc,v 1,v 2,v 3,v 4,.int .i64 0,v 5,.int .i64 (e3 F),.int .i64 0,.int .i64 (m3 F),.int .i64 (r3 F)]:=HW2.o.own;have c0:w2.cell? ⟨g,0,none⟩=some (.slice (some ⟨mb,moff,none⟩) nm mc):=ho2.cell 0;have hgl:=ho2.lt;obtain ⟨q,hq⟩:∃ z,cB ML m.nm=z:=⟨_,rfl⟩
      have HFQ:=aH (fun W (hW:Below w0.heap.size w0 W)=>show Calls Tryz.prog 57 #[.slice (some ⟨mb,moff,none⟩) nm mc,.string m.nm] W fun e w'=>e=.returned (.int .i64 q)/\w'=W from by
       have h:=HFI.o m.nm W (HMS.o W hW);rw [hq] at h
       exact h.mono fun e w' h=>⟨h.1,h.2.symm⟩)
      rw [hq] at HE1;clear hq ho2;go_wp2_with fail;go_quiet (first | (go_at_call 57;with_reducible exact Calls.quiet_of_same (HFQ.o _ (HW2.o.bl.trans ((below_drewN (Below.refl _ _) _).mono HW2.o.bl.size)))))
      have HW3:=aH (HW2.o.below (below_drewN (Below.refl _ _) nq));have HX3:=aH (HX2.o.on_drewN nq);clear HFQ x0 xl c0 hgl HW2 HX2;generalize w2.drewN nq=w3 at *;by_cases hqk:q=(k:Int)
      ·
       have hq1:(q != (k:Int))=false:=(by rw [hqk];simp);have hq2:(q == (k:Int))=true:=(by rw [hqk];simp);have HE:=aH (show hdE ML k m=none from by rw [HE1.o,if_neg (by simp),if_pos hqk]);clear hqk;go_wp2
       go_meet
       rw [HE.o,A0t];exact ⟨HW3,HX3⟩
      ·
       have hq1:(q != (k:Int))=true:=bne_iff_ne.2 hqk;have hq2:(q == (k:Int))=false:=aN.2 hqk;have HE:=aH (show hdE ML k m=some (4,(k:Int),-1) from by rw [HE1.o,if_neg (by simp),if_neg hqk]);go_wp2_with fail;refine (nO 4 (k:Int) (-1) (by decide) HW3.o).mono ?_;rintro e w4 ⟨rfl,hW4,hb4⟩;have HW4:=aH hW4;have HX4:=aH (HX3.o.but hb4 HAG.o);clear hW4 hb4;go_wp2
       go_meet
       rw [HE.o];exact ⟨HW4,HX4⟩
   case rest =>
    obtain ⟨HWC,HXC⟩:=hcut;clear HW1 HX1 HB1 HW;obtain ⟨F1,hF1⟩:∃ f,orF F (hdE ML k m)=f:=⟨_,rfl⟩;rw [hF1] at HWC HRS;clear hF1;have HWF:=aH (show Win (fun b=>c b=5) 3 1 wc (v 5) k (lD G) from by have q:=HWC.o.win 5 (by omega) (by omega);rw [upd_same] at q;exact q);obtain ⟨fo,fc,hv5,-,-,-⟩:=HWF.o.form;have HV5:=aH hv5;rw [hv5] at HWF;have ho:Own wc g 71 [.slice (some ⟨mb,moff,none⟩) nm mc,v 1,v 2,v 3,v 4,.int .i64 0,v 5,.int .i64 (e3 F1),.int .i64 0,.int .i64 (m3 F1),.int .i64 (r3 F1)]:=HWC.o.own;have c6:wc.cell? ⟨g,6,none⟩=some (.slice fo k fc):=(by have q:=ho.cell 6;rw [q];exact congrArg some hv5);have hgl:=ho.lt;have HO:=aH ho;have NP:=aH (show ¬ c g=5 from by rw [HWC.o.cg];omega);obtain ⟨i0,hi0,hz0,hz1,hz2⟩:=cZ gL;have HNEW:=aH (fun W=>bD W 3 [.int .i64 (s:Int)]);clear hv5 ho
    go_wp2_with (first
     | (at_builtin;refine aX _ rfl _ _ 39 rfl (fun b=>c b=5) 3 i0 _ 1 8 Tryz.underlying39 hi0 hz0 hz1 hz2 rfl (by decide) _ k (lD G) rfl (HWF.o.below (bA _)) ⟨wc.heap.size,0,none⟩ 1 1 [.int .i64 (s:Int)] rfl rfl (HNEW.o wc) (by intro u hu;rw [List.mem_singleton.1 hu];rfl) (by unfold maxLen;omega) (by omega) ?_))
    intro v' w5 hw5 hb5;have hblx:Below wc.heap.size wc (wc.alloc (.cells #[.int .i64 (s:Int)] 3)):=bA _;obtain ⟨vb,voff,vcap,rfl,hvg,hvle,hvlt⟩:=hw5.has (by omega)
    have HG5:=aH (HWC.o.grown hblx (i:=5) (v':=.slice (some ⟨vb,voff,none⟩) (k + 1) vcap) (m:=1) (news:=[.int .i64 (s:Int)]) (by omega) (by omega) (by rw [upd_same];exact hw5.mono (fun j _ h=>by
     rcases h with h | h
     · exact .inl h
     · exact .inr (by simpa using h))) hb5).1
    have hO5:=(HO.o.under hblx HO.o.lt).but hb5 NP.o;have d6:=hO5.cell 6;have t6:=hO5.thaw 6;have hgl5:=hO5.lt;have hX5:=(HXC.o.under hblx HXC.o.lt).but hb5 (fun h=>by have h:c A=5:=h;have:=HCA.o.1;omega);have HX5:=aH (hX5.but (But.put w5 g 6 (.slice (some ⟨vb,voff,none⟩) (k + 1) vcap)) HCA.o.2)
    have HW5:=aH (show Wk w0 (w5.setCell ⟨g,6,none⟩ (.slice (some ⟨vb,voff,none⟩) (k + 1) vcap)) g (Qj c (wc.alloc (.cells #[.int .i64 (s:Int)] 3)) w5 5) (upd rows 5 (k + 1,lD (G ++ [s]))) (upd v 5 (.slice (some ⟨vb,voff,none⟩) (k + 1) vcap)) (.slice (some ⟨mb,moff,none⟩) nm mc) 0 F1 from by
     refine HG5.o.rows_eq fun i _ _=>?_;by_cases e:i=5
     · subst e;rw [upd_same,upd_same,upd_same];unfold lD;rw [List.map_append];rfl
     · rw [iB _ _ e,iB _ _ e,iB _ _ e])
    clear HG5 hO5 hX5 hw5 hvg hvle hblx c6 hgl HWF HV5 HXC HWC HO NP;go_upto_region 12 with fail;generalize Qj c (wc.alloc (.cells #[.int .i64 (s:Int)] 3)) w5 5=c5 at *;generalize w5.setCell ⟨g,6,none⟩ (.slice (some ⟨vb,voff,none⟩) (k + 1) vcap)=w6 at *;generalize upd v 5 (.slice (some ⟨vb,voff,none⟩) (k + 1) vcap)=v5 at *;clear hb5 d6 t6 hgl5 hvlt HNEW;have xA:w6.cell? ⟨A,10,none⟩=some (.slice ro m.ru.length rc):=HX5.o.cell 10;have xl:=HX5.o.lt;obtain ⟨nr,hnr⟩:∃ z,m.ru.length=z:=⟨_,rfl⟩;rw [hnr] at xA HRS HGS h24;have hs5:=HS.o;have hwr:IntKind.i64.wrap ((s:Int) + (nr:Int))=(s:Int) + (nr:Int):=wI;clear hnr;obtain ⟨q,hq⟩:∃ q,s + nr=q:=⟨_,rfl⟩;have hqi:(s:Int) + (nr:Int)=(q:Int):=(by omega);have HS6:=aH (show q<=24 * (k + 1) from by omega);rw [hq] at HRS HGS;by_cases hq24:24 < q
    ·
     have hq1:decide ((24:Int) < (s:Int) + (nr:Int))=true:=aT (by omega);have HRT:=aH (HRS.o.trans (by rw [if_pos hq24]));go_wp2_with fail;refine (nO 3 (k:Int) (-1) (by decide) HW5.o).mono ?_;rintro e w7 ⟨rfl,hW7,hb7⟩;have HW7:=aH hW7;clear hW7 hb7 xA xl;go_wp2
     go_roundw
     case rel=>exact ⟨k + 1,q,_,c5,v5,G ++ [s],(by first | rfl | rw [hqi]),by go_num,by omega,HS6,HW7,HRT,HGS⟩
     case measure=>simp [intOf];omega
    ·
     have hq1:decide ((24:Int) < (s:Int) + (nr:Int))=false:=aF (by omega);have HRT:=aH (show R1=hd1 ML (ML.drop (k + 1)) (k + 1) q F1 from HRS.o.trans (by rw [if_neg hq24,A0t]));go_wp2
     go_roundw
     case rel=>exact ⟨k + 1,q,F1,c5,v5,G ++ [s],(by first | rfl | rw [hqi]),by go_num,by omega,HS6,HW5,HRT,HGS⟩
     case measure=>simp [intOf];omega
  ·
   have hkn1:decide ((k:Int) < nm)=false:=aF hkn;have hkn2:decide (k < nm)=false:=aF (by omega);have hdk:ML.drop k=[]:=List.drop_eq_nil_of_le (by have:=HNM.o;omega);have HRE:=aH (show R1=F from by rw [HR.o,hdk];rfl)
   have HGE:=aH (show FL=G/\G.length=nm from by
    have h1:=HG.o.1;rw [hdk] at h1;have h2:FL=G:=h1.trans (List.append_nil G)
    exact ⟨h2,by rw [<- h2];exact HFL.o⟩)
   have HW0:=aH (show Wk w0 wr g c (upd rows 5 (nm,lD FL)) v (.slice mo nm mc) 0 R1 from by
    rw [HRE.o,HGE.o.1];have hknm:k=nm:=(by have:=HG.o.2;have:=HGE.o.2;omega);have q:=HW.o;rw [show (k,lD G)=(nm,lD G) from by rw [hknm]] at q
    exact q)
   have HQ0:=aH (show RES=hd2 ML (ML.drop 0) 0 R1 from HR2.o);clear HW HR HG HRE HGE hdk HS;go_wp2_with fail
   go_loopw [5] (fun v5 wr=>∃ (k:Nat) (F:Option Ft3),v5=.int .i64 (k:Int)/\(k:Int)<=nm/\aQ (Wk w0 wr g c (upd rows 5 (nm,lD FL)) v (.slice mo nm mc) 0 F)/\aQ (RES=hd2 ML (ML.drop k) k F)) (fun v5 _=>nm - (intOf v5).toNat)
   case atStart=>exact ⟨0,R1,rfl,by omega,HW0,HQ0⟩
   case round =>
    obtain ⟨k2,F2,rfl,hk2,HW2,HQ2⟩:=hrel;clear HW0 HQ0;have ho:Own wr g 71 [.slice mo nm mc,v 1,v 2,v 3,v 4,.int .i64 0,v 5,.int .i64 (e3 F2),.int .i64 0,.int .i64 (m3 F2),.int .i64 (r3 F2)]:=HW2.o.own;have c0:wr.cell? ⟨g,0,none⟩=some (.slice mo nm mc):=ho.cell 0;have hgl:=ho.lt;by_cases hkn:(k2:Int) < nm
    ·
     have hkn1:decide ((k2:Int) < nm)=true:=aT hkn;have hkn2:decide (k2 < nm)=true:=aT (by omega);obtain ⟨m,hm⟩:∃ m,ML[k2]?=some m:=⟨_,aG (by have:=HNM.o;omega)⟩
     have HDR:=aH (show ML.drop k2=m :: ML.drop (k2 + 1) from by
      obtain ⟨h1,h2⟩:=aS.1 hm
      rw [List.drop_eq_getElem_cons h1,h2])
     have HQI:=aH (show RES=hd2 ML (ML.drop (k2 + 1)) (k2 + 1) (imF ML k2 (m.im.drop 0) F2) from by rw [HQ2.o,HDR.o,B0H,List.drop_zero]);have HM:=aH hm;have hw1:IntKind.i64.wrap ((k2:Int) + 1)=(k2:Int) + 1:=wI;have hni4:=(HOK.o m (aM hm)).2.1;obtain ⟨ni,hni⟩:∃ z,m.im.length=z:=⟨_,rfl⟩;have HNI:=aH hni;rw [hni] at hni4;clear hm hni ho HQ2 HDR;go_wp2_with fail
     go_loopw [6] (fun v6 wr=>∃ (j:Nat) (F:Option Ft3),v6=.int .i64 (j:Int)/\(j:Int)<=ni/\aQ (Wk w0 wr g c (upd rows 5 (nm,lD FL)) v (.slice mo nm mc) 0 F)/\aQ (RES=hd2 ML (ML.drop (k2 + 1)) (k2 + 1) (imF ML k2 (m.im.drop j) F))) (fun v6 _=>ni - (intOf v6).toNat)
     case atStart=>exact ⟨0,F2,rfl,by omega,HW2,HQI⟩
     case round =>
      obtain ⟨j,F3,rfl,hj,HW3,HQ3⟩:=hrel;clear HW2 HQI c0 hgl;have ho:Own wr g 71 [.slice mo nm mc,v 1,v 2,v 3,v 4,.int .i64 0,v 5,.int .i64 (e3 F3),.int .i64 0,.int .i64 (m3 F3),.int .i64 (r3 F3)]:=HW3.o.own;have c0:wr.cell? ⟨g,0,none⟩=some (.slice mo nm mc):=ho.cell 0;have hgl:=ho.lt;obtain ⟨nn,hMr⟩:=HM0.o;obtain ⟨mb,moff,io,ic,ko,kc,ro,rc,hmo,hmb,-,-,d1,-,-,-,-,-,-,-,-,-,hnr,-,-⟩:=hMr k2 m HM.o;have e1:=aC d1 HW3.o.bl;have hmb2:mb < wr.heap.size:=aL hmb HW3.o.bl.size;have HNR:=aH (hnr.hasN.below HW3.o.bl);rw [HNI.o] at e1;subst hmo;clear hMr d1 hnr hmb ho;by_cases hjn:(j:Int) < ni
      ·
       have hjn1:decide ((j:Int) < ni)=true:=aT hjn;have hjn2:decide (j < ni)=true:=aT (by omega);obtain ⟨x,hx⟩:∃ x,m.im[j]?=some x:=⟨_,aG (by have:=HNI.o;omega)⟩;obtain ⟨xb,xoff,hio,hxb,f0⟩:=HNR.o j x hx
       have HDX:=aH (show m.im.drop j=x :: m.im.drop (j + 1) from by
        obtain ⟨h1,h2⟩:=aS.1 hx
        rw [List.drop_eq_getElem_cons h1,h2])
       have hw2:IntKind.i64.wrap ((j:Int) + 1)=(j:Int) + 1:=wI;obtain ⟨q,hq⟩:∃ z,cB ML x=z:=⟨_,rfl⟩
       have HFQ:=aH (fun W (hW:Below w0.heap.size w0 W)=>show Calls Tryz.prog 57 #[.slice (some ⟨mb,moff,none⟩) nm mc,.string x] W fun e w'=>e=.returned (.int .i64 q)/\w'=W from by
        have h:=HFI.o x W (HMS.o W hW);rw [hq] at h
        exact h.mono fun e w' h=>⟨h.1,h.2.symm⟩)
       have HQ4:=aH (show RES=hd2 ML (ML.drop (k2 + 1)) (k2 + 1) (imF ML k2 (m.im.drop (j + 1)) (if q < 0 then orF F3 (some (5,(k2:Int),-1)) else F3)) from by rw [HQ3.o,HDX.o,B0P,hq]);subst hio;clear hq hx HDX HQ3;go_wp2_with fail;go_quiet (first | (go_at_call 57;with_reducible exact Calls.quiet_of_same (HFQ.o _ (HW3.o.bl.trans ((below_drewN (Below.refl _ _) _).mono HW3.o.bl.size)))))
       have HW4:=aH (HW3.o.below (below_drewN (Below.refl _ _) nq));clear HFQ c0 hgl HW3 HNR f0 hxb e1 hmb2;generalize wr.drewN nq=w4 at *;by_cases hq0:q < 0
       ·
        have hq1:decide (q < 0)=true:=aT hq0;have HQ5:=aH (HQ4.o.trans (by rw [if_pos hq0]));go_wp2_with fail;refine (nO 5 (k2:Int) (-1) (by decide) HW4.o).mono ?_;rintro e w5 ⟨rfl,hW5,hb5⟩;have HW5:=aH hW5;clear hW5 hb5;go_wp2
        go_roundw
        case rel=>exact ⟨j + 1,_,by go_num,by omega,HW5,HQ5⟩
        case measure=>simp [intOf];omega
       ·
        have hq1:decide (q < 0)=false:=aF hq0;have HQ5:=aH (show RES=hd2 ML (ML.drop (k2 + 1)) (k2 + 1) (imF ML k2 (m.im.drop (j + 1)) F3) from HQ4.o.trans (by rw [if_neg hq0]));go_wp2
        go_roundw
        case rel=>exact ⟨j + 1,F3,by go_num,by omega,HW4,HQ5⟩
        case measure=>simp [intOf];omega
      ·
       have hjn1:decide ((j:Int) < ni)=false:=aF hjn;have hjn2:decide (j < ni)=false:=aF (by omega);have HQ5:=aH (show RES=hd2 ML (ML.drop (k2 + 1)) (k2 + 1) F3 from by rw [HQ3.o,show m.im.drop j=[] from List.drop_eq_nil_of_le (by have:=HNI.o;omega)];rfl);go_wp2
       first
        | exact ⟨⟨k2 + 1,F3,by go_num,by omega,HW3,HQ5⟩,by simp [intOf];omega⟩
        | (go_roundw
           case rel=>exact ⟨k2 + 1,F3,by go_num,by omega,HW3,HQ5⟩
           case measure=>simp [intOf];omega)
    ·
     have hkn1:decide ((k2:Int) < nm)=false:=aF hkn;have hkn2:decide (k2 < nm)=false:=aF (by omega);have HRE:=aH (show RES=F2 from by rw [HQ2.o,List.drop_eq_nil_of_le (by have:=HNM.o;omega)];rfl);go_wp2
     first
      | (refine bodyPost_ret (results_none rfl _ _ _) rfl ?_;exact ⟨rfl,c,v,by rw [HRE.o];exact HW2.o⟩)
      | (go_end0;exact ⟨rfl,c,v,by rw [HRE.o];exact HW2.o⟩)
def StQ (w0 w':World) (g:Nat) (ct:Nat->Nat) (rows:Rw) (v:Nat->Value) (lv:Value):Option Int->Prop
 | some st=>Wk w0 w' g ct rows v lv st none
 | none=>Wk w0 w' g ct rows v lv 0 (some (5,-1,-1))
theorem A3P (ML:List Md) (FL:List Nat) (mo:Option Addr) (mc:Nat) (w0:World) (D0:Nat) (hM:fK w0 D0 mo ML) (hok:∀ m ∈ ML,Okm m) (h5:ML.length<=8) (hfew:Few ML) (hFL:FL.length=ML.length) (hFb:∀ x ∈ FL,x<=1000000000) (s:ByteArray) (hs:s.size<=1000000) (g:Nat) (w:World) (ct:Nat->Nat) (rows:Rw) (v:Nat->Value) (h:Wk w0 w g ct rows v (.slice mo ML.length mc) 0 none) (hr5:rows 5=(FL.length,lD FL)) :
  Calls Tryz.prog 28 #[.pointer (some ⟨g,0,none⟩),.string s] w fun e w'=>e=.returned (.tuple #[])/\StQ w0 w' g ct rows v (.slice mo ML.length mc) (yZ ML FL s)/\But (fun j=>j=g) w w':=by
 have HSP:=aH (xK s hs w);have HFI:=aH (fun (x:ByteArray) W (hW:fK W D0 mo ML)=>Ad ML D0 mo mc x (by omega) W hW);have HRV:=aH (fun (W:World) (hW:fK W D0 mo ML)=>Ia ML D0 mo mc 0 s hs hfew W hW);have HMS:=aH (fun (W:World) (h:Below w0.heap.size w0 W)=>hM.below h);have HOK:=aH hok;have HFB:=aH hFb;have HR5:=aH hr5;obtain ⟨nm,hnm⟩:∃ n,ML.length=n:=⟨_,rfl⟩;have HNM:=aH hnm;have HFL:=aH (show FL.length=nm from hFL.trans hnm);obtain ⟨RES,hRES⟩:∃ r,yZ ML FL s=r:=⟨_,rfl⟩;obtain ⟨sb,hsb⟩:∃ z,splitB s=z:=⟨_,rfl⟩;obtain ⟨sm,hsm⟩:∃ z,iA s=z:=⟨_,rfl⟩;obtain ⟨sr,hsr⟩:∃ z,iN s=z:=⟨_,rfl⟩
 have HST:=aH (show RES=if sb=true then
   (if sm.toList=[] then (match uD ML 0 s with
    | (m,r,true)=>some ((FL.getD m.toNat 0:Nat) + r)
    | (_,_,false)=>none)
   else if 0<=cB ML sm then
    (if 0<=xM ML (cB ML sm) sr then some ((FL.getD (cB ML sm).toNat 0:Nat) + xM ML (cB ML sm) sr) else none)
   else none)
  else none from by rw [<- hRES,<- hsb,<- hsm,<- hsr];rfl)
 rw [hsb,hsm,hsr] at HSP;have HW:=aH h;rw [hnm] at HFI HRV HW h5;rw [hRES,hnm];clear hM hok hFb hr5 hfew hFL hRES hsb hsm hsr h hnm;go_enter Tryz.func28,Tryz.ntmps28;go_wp2_with fail;refine HSP.o.mono ?_;rintro e w1 ⟨rfl,hb1⟩;have HB1:=aH hb1;have HW1:=aH (HW.o.below hb1);clear hb1 HSP HW
 cases sb with
 | false =>
  have HE:=aH (show RES=none from by rw [HST.o];rfl);go_wp2_with fail;refine (nO 5 (-1) (-1) (by decide) HW1.o).mono ?_;rintro e w9 ⟨rfl,hW9,hb9⟩;have HW9:=aH hW9;have HB9:=aH hb9;clear hW9 hb9;go_wp2
  first
   | (refine bodyPost_ret (results_none rfl _ _ _) rfl ?_;rw [HE.o];exact ⟨rfl,HW9.o,(But.of_below HB1.o).trans HB9.o (fun b _ h=>h)⟩)
   | (go_end0;rw [HE.o];exact ⟨rfl,HW9.o,(But.of_below HB1.o).trans HB9.o (fun b _ h=>h)⟩)
 | true =>
  have ho:Own w1 g 71 [.slice mo nm mc,v 1,v 2,v 3,v 4,.int .i64 0,v 5,.int .i64 0,.int .i64 0,.int .i64 0,.int .i64 0]:=HW1.o.own;have c0:w1.cell? ⟨g,0,none⟩=some (.slice mo nm mc):=ho.cell 0;have hgl:=ho.lt;obtain ⟨ze,hze⟩:∃ z,(sm.toList == ([]:List UInt8))=z:=⟨_,rfl⟩;have hze2:sm.toList.isEmpty=ze:=by rw [<- hze];generalize sm.toList=l;cases l <;> rfl
  cases ze with
  | true =>
   have hse:sm.toList=[]:=(by simpa using hze);obtain ⟨⟨rm,rr,rb⟩,hr⟩:∃ r,uD ML 0 s=r:=⟨_,rfl⟩
   have HST2:=aH (show RES=(match (rm,rr,rb) with
     | (m,r,true)=>some ((FL.getD m.toNat 0:Nat) + r)
     | (_,_,false)=>none) from by rw [HST.o,if_pos rfl,if_pos hse,hr];cases rb <;> rfl)
   have HRR:=aH hr;have HRC:=aH (HRV.o w1 (HMS.o w1 HW1.o.bl));rw [hr] at HRC;unfold rvV at HRC;clear hr hse ho;go_wp2_with fail;refine HRC.o.mono ?_;rintro e w2 ⟨rfl,hb2⟩;have HB2:=aH (HB1.o.trans (hb2.mono HB1.o.size));have HW2:=aH (HW1.o.below hb2);clear hb2 c0 hgl HRC
   cases rb with
   | false =>
    have HE:=aH (show RES=none from HST2.o);go_wp2_with fail;refine (nO 5 (-1) (-1) (by decide) HW2.o).mono ?_;rintro e w9 ⟨rfl,hW9,hb9⟩;have HW9:=aH hW9;have HB9:=aH hb9;clear hW9 hb9;go_wp2
    first
     | (refine bodyPost_ret (results_none rfl _ _ _) rfl ?_;rw [HE.o];exact ⟨rfl,HW9.o,(But.of_below HB2.o).trans HB9.o (fun b _ h=>h)⟩)
     | (go_end0;rw [HE.o];exact ⟨rfl,HW9.o,(But.of_below HB2.o).trans HB9.o (fun b _ h=>h)⟩)
   | true =>
    obtain ⟨mm,md,hmm,hmd,-,hr0',hr1⟩:=DJ HRR.o;subst hmm;have hmmn:mm < nm:=(by have:=(aS.1 hmd).1;have:=HNM.o;omega);have hrr:rr<=24:=(by have:=(HOK.o md (aM hmd)).2.2;omega);have HV:=aH (show RES=some ((FL.getD mm 0:Nat) + rr) from HST2.o);clear hmd hr1;obtain ⟨fx,hfx⟩:∃ x,FL[mm]?=some x:=⟨_,aG (by have:=HFL.o;omega)⟩;have hfb:fx<=1000000000:=HFB.o fx (aM hfx);have HE:=aH (show RES=some ((fx:Int) + rr) from by rw [HV.o,List.getD_eq_getElem?_getD,hfx];rfl)
    have HWF:=aH (show Win (fun b=>ct b=5) 3 1 w2 (v 5) FL.length (lD FL) from by
     have q:=HW2.o.win 5 (by omega) (by omega)
     rw [HR5.o] at q;exact q)
    obtain ⟨fo,fc,hv5,-,-,-⟩:=HWF.o.form;have hkf:=HWF.o;rw [hv5] at hkf;obtain ⟨fb,foff,hfo,hfl,-,f0⟩:=Tq hkf mm fx hfx;have ho:Own w2 g 71 [.slice (mo) nm mc,v 1,v 2,v 3,v 4,.int .i64 0,v 5,.int .i64 0,.int .i64 0,.int .i64 0,.int .i64 0]:=HW2.o.own;have c6:w2.cell? ⟨g,6,none⟩=some (.slice (some ⟨fb,foff,none⟩) nm fc):=(by have q:=ho.cell 6;rw [q,<- hfo,<- HFL.o];exact congrArg some hv5);have c5:w2.cell? ⟨g,5,none⟩=some (.int .i64 0):=ho.cell 5;have t5:w2.frozen? ⟨g,5,none⟩=false:=ho.thaw 5;have hgl:=ho.lt;have hwr:IntKind.i64.wrap ((fx:Int) + rr)=(fx:Int) + rr:=wI;have hmi:decide ((mm:Int) < (nm:Int))=true:=aT (by omega);have hmin:decide (mm < nm)=true:=aT (by omega);have hr0:decide (rr < 0)=false:=aF (by omega);have HW9:=aH (show Wk w0 (w2.setCell ⟨g,5,none⟩ (.int .i64 ((fx:Int) + rr))) g ct rows v (.slice (mo) nm mc) ((fx:Int) + rr) none from HW2.o.turn (But.put w2 g 5 _) (ho.put 5 _) (fun f e=>by cases e));clear hfx hkf hfo ho hv5 HWF;go_wp2
    first
     | (refine bodyPost_ret (results_none rfl _ _ _) rfl ?_;rw [HE.o];exact ⟨rfl,HW9.o,(But.of_below HB2.o).trans (But.put w2 g 5 _) (fun b _ h=>h)⟩)
     | (go_end0;rw [HE.o];exact ⟨rfl,HW9.o,(But.of_below HB2.o).trans (But.put w2 g 5 _) (fun b _ h=>h)⟩)
  | false =>
   have hse:¬ sm.toList=[]:=(by simpa using hze);obtain ⟨q,hq⟩:∃ z,cB ML sm=z:=⟨_,rfl⟩;have HST2:=aH (show RES=if 0<=q then (if 0<=xM ML q sr then some ((FL.getD q.toNat 0:Nat) + xM ML q sr) else none) else none from by rw [HST.o,if_pos rfl,if_neg hse,hq]);have HFC:=aH (HFI.o sm w1 (HMS.o w1 HW1.o.bl));have hqn:q < nm:=by
    have hb:=zL (fun m:Md=>m.nm.toList == sm.toList) 0 ML;rcases hb with h | h
    · have h:cB ML sm=-1:=h;omega
    · have h2:cB ML sm < ((0:Nat):Int) + ML.length:=h.2;have:=HNM.o;omega
   rw [hq] at HFC;clear hq hse ho;go_wp2_with fail;refine HFC.o.mono ?_;rintro e w2 ⟨rfl,rfl⟩;by_cases hq0:0<=q
   ·
    have hq1:decide (0<=q)=true:=aT hq0;obtain ⟨mm,rfl⟩:∃ k:Nat,q=(k:Int):=⟨q.toNat,by omega⟩;have hmmn:mm < nm:=(by omega);obtain ⟨m,hm⟩:∃ m,ML[mm]?=some m:=⟨_,aG (by have:=HNM.o;omega)⟩;obtain ⟨nn,hMr⟩:=HMS.o w1 HW1.o.bl;obtain ⟨mb,moff,io,ic,ko,kc,ro,rc,hmo,hmb,-,d0,d1,d2,d3,d4,d5,d6,d7,d8,d9,dA,-,-,hru⟩:=hMr mm m hm;have h24:=(HOK.o m (aM hm)).2.2;have HRC:=aH (Ae m D0 nn io ic ko kc ro rc sr (by omega) w1 hru);obtain ⟨rr,hrr⟩:∃ z,eU m sr=z:=⟨_,rfl⟩;have hrb:=A2A m sr;rw [hrr] at HRC hrb;have HST3:=aH (show RES=if 0<=rr then some ((FL.getD mm 0:Nat) + rr) else none from by rw [HST2.o,if_pos hq0,rW sr (by rw [Int.toNat_natCast];exact hm),hrr,Int.toNat_natCast]);have hmi9:decide ((mm:Int) < (nm:Int))=true:=aT (by omega);have hmin9:decide (mm < nm)=true:=aT (by omega);subst hmo;clear hm hMr hru hrr;go_wp2_with fail;refine HRC.o.mono ?_;rintro e w3 ⟨rfl,hb3⟩;have HB3:=aH (HB1.o.trans (hb3.mono HB1.o.size));have HW3:=aH (HW1.o.below hb3);clear hb3 d0 d1 d2 d3 d4 d5 d6 d7 d8 d9 dA c0 hgl hmb HRC;by_cases hr0':0<=rr
    ·
     have hrr:rr<=24:=(by omega);have HV:=aH (show RES=some ((FL.getD mm 0:Nat) + rr) from HST3.o.trans (if_pos hr0'));obtain ⟨fx,hfx⟩:∃ x,FL[mm]?=some x:=⟨_,aG (by have:=HFL.o;omega)⟩;have hfb:fx<=1000000000:=HFB.o fx (aM hfx);have HE:=aH (show RES=some ((fx:Int) + rr) from by rw [HV.o,List.getD_eq_getElem?_getD,hfx];rfl)
     have HWF:=aH (show Win (fun b=>ct b=5) 3 1 w3 (v 5) FL.length (lD FL) from by
      have q:=HW3.o.win 5 (by omega) (by omega)
      rw [HR5.o] at q;exact q)
     obtain ⟨fo,fc,hv5,-,-,-⟩:=HWF.o.form;have hkf:=HWF.o;rw [hv5] at hkf;obtain ⟨fb,foff,hfo,hfl,-,f0⟩:=Tq hkf mm fx hfx;have ho:Own w3 g 71 [.slice (some ⟨mb,moff,none⟩) nm mc,v 1,v 2,v 3,v 4,.int .i64 0,v 5,.int .i64 0,.int .i64 0,.int .i64 0,.int .i64 0]:=HW3.o.own;have c6:w3.cell? ⟨g,6,none⟩=some (.slice (some ⟨fb,foff,none⟩) nm fc):=(by have q:=ho.cell 6;rw [q,<- hfo,<- HFL.o];exact congrArg some hv5);have c5:w3.cell? ⟨g,5,none⟩=some (.int .i64 0):=ho.cell 5;have t5:w3.frozen? ⟨g,5,none⟩=false:=ho.thaw 5;have hgl:=ho.lt;have hwr:IntKind.i64.wrap ((fx:Int) + rr)=(fx:Int) + rr:=wI;have hmi:decide ((mm:Int) < (nm:Int))=true:=aT (by omega);have hmin:decide (mm < nm)=true:=aT (by omega);have hr0:decide (rr < 0)=false:=aF (by omega);have HW9:=aH (show Wk w0 (w3.setCell ⟨g,5,none⟩ (.int .i64 ((fx:Int) + rr))) g ct rows v (.slice (some ⟨mb,moff,none⟩) nm mc) ((fx:Int) + rr) none from HW3.o.turn (But.put w3 g 5 _) (ho.put 5 _) (fun f e=>by cases e));clear hfx hkf hfo ho hv5 HWF;go_wp2
     first
      | (refine bodyPost_ret (results_none rfl _ _ _) rfl ?_;rw [HE.o];exact ⟨rfl,HW9.o,(But.of_below HB3.o).trans (But.put w3 g 5 _) (fun b _ h=>h)⟩)
      | (go_end0;rw [HE.o];exact ⟨rfl,HW9.o,(But.of_below HB3.o).trans (But.put w3 g 5 _) (fun b _ h=>h)⟩)
    ·
     have hr1:decide (rr < 0)=true:=aT (by omega);have HE:=aH (show RES=none from HST3.o.trans (if_neg hr0'));go_wp2_with fail;refine (nO 5 (-1) (-1) (by decide) HW3.o).mono ?_;rintro e w9 ⟨rfl,hW9,hb9⟩;have HW9:=aH hW9;have HB9:=aH hb9;clear hW9 hb9;go_wp2
     first
      | (refine bodyPost_ret (results_none rfl _ _ _) rfl ?_;rw [HE.o];exact ⟨rfl,HW9.o,(But.of_below HB3.o).trans HB9.o (fun b _ h=>h)⟩)
      | (go_end0;rw [HE.o];exact ⟨rfl,HW9.o,(But.of_below HB3.o).trans HB9.o (fun b _ h=>h)⟩)
   ·
    have hq1:decide (0<=q)=false:=aF hq0;have HE:=aH (show RES=none from HST2.o.trans (if_neg hq0));go_wp2_with fail;refine (nO 5 (-1) (-1) (by decide) HW1.o).mono ?_;rintro e w9 ⟨rfl,hW9,hb9⟩;have HW9:=aH hW9;have HB9:=aH hb9;clear hW9 hb9;go_wp2
    first
     | (refine bodyPost_ret (results_none rfl _ _ _) rfl ?_;rw [HE.o];exact ⟨rfl,HW9.o,(But.of_below HB1.o).trans HB9.o (fun b _ h=>h)⟩)
     | (go_end0;rw [HE.o];exact ⟨rfl,HW9.o,(But.of_below HB1.o).trans HB9.o (fun b _ h=>h)⟩)
def set5 (w:World) (g:Nat) (u0 u1 u2 u3 u4:Value):World:=((((w.setCell ⟨g,0,none⟩ u0).setCell ⟨g,1,none⟩ u1).setCell ⟨g,2,none⟩ u2).setCell ⟨g,3,none⟩ u3).setCell ⟨g,4,none⟩ u4
theorem eD (w:World) (g:Nat) (u0 u1 u2 u3 u4:Value):((((w.setCell ⟨g,0,none⟩ u0).setCell ⟨g,1,none⟩ u1).setCell ⟨g,2,none⟩ u2).setCell ⟨g,3,none⟩ u3).setCell ⟨g,4,none⟩ u4=set5 w g u0 u1 u2 u3 u4:=rfl
theorem Own.put5 {w:World} {g:Nat} {t:TypeId} {v0 v1 v2 v3 v4:Value} (h:Own w g t [v0,v1,v2,v3,v4]) (u0 u1 u2 u3 u4:Value):Own (set5 w g u0 u1 u2 u3 u4) g t [u0,u1,u2,u3,u4]:=((((h.put 0 u0).put 1 u1).put 2 u2).put 3 u3).put 4 u4
theorem But.set5 (w:World) (g:Nat) (u0 u1 u2 u3 u4:Value):But (fun j=>j=g) w (set5 w g u0 u1 u2 u3 u4) :=
 (((((But.refl (fun j=>j=g) w).setCell (p:=⟨g,0,none⟩) (fun _=>rfl) _).setCell (p:=⟨g,1,none⟩) (fun _=>rfl) _).setCell (p:=⟨g,2,none⟩) (fun _=>rfl) _).setCell (p:=⟨g,3,none⟩) (fun _=>rfl) _).setCell (p:=⟨g,4,none⟩) (fun _=>rfl) _
structure Gv where
 mo:Option Addr
 no:Option Addr
 ho:Option Addr
 wo:Option Addr
 mc:Nat
 nc:Nat
 hc:Nat
 wc:Nat
def grv (gr:Gj) (a:Gv):Value:=.agg #[.slice a.mo gr.ms.length a.mc,.slice a.no gr.ns.length a.nc,.slice a.ho gr.hs.length a.hc,.slice a.wo gr.ws.length a.wc,.int .i64 gr.st]
def DZ (w:World) (R:Nat->Prop) (no:Option Addr) (ns:List Nj):Prop:=∀ (k:Nat) (x:Nj),ns[k]?=some x->∃ b off ko kc,no=some ⟨b,off,none⟩/\b < w.heap.size/\(R b/\x.ks.length<=kc) ∧
 w.cell? ⟨b,off + k * 10,none⟩=some (.int .i64 x.op)/\w.cell? ⟨b,off + k * 10 + 1,none⟩=some (.string x.tx)/\w.cell? ⟨b,off + k * 10 + 2,none⟩=some (.int .u64 x.s0)/\w.cell? ⟨b,off + k * 10 + 3,none⟩=some (.int .u64 x.s1) ∧
 w.cell? ⟨b,off + k * 10 + 4,none⟩=some (.int .u64 x.s2)/\w.cell? ⟨b,off + k * 10 + 5,none⟩=some (.int .u64 x.s3)/\w.cell? ⟨b,off + k * 10 + 6,none⟩=some (.slice ko x.ks.length kc)/\w.cell? ⟨b,off + k * 10 + 7,none⟩=some (.int .i64 x.tg) ∧
 w.cell? ⟨b,off + k * 10 + 8,none⟩=some (.int .i64 (x.mo:Int))/\w.cell? ⟨b,off + k * 10 + 9,none⟩=some (.int .i64 x.ru)/\nC w R ko x.ks
theorem DZ.but {S R:Nat->Prop} {w w':World} {no:Option Addr} {ns:List Nj} (h:DZ w R no ns) (hb:But S w w') (hS:∀ j,j < w.heap.size->R j->¬ S j):DZ w' R no ns:=fun k x hx=>by obtain ⟨b,off,ko,kc,e,hlt,hr,c0,c1,c2,c3,c4,c5,c6,c7,c8,c9,hk⟩:=h k x hx;have hn:=hS b hlt hr.1;exact ⟨b,off,ko,kc,e,aL hlt hb.size,hr,hb.cell hn c0,hb.cell hn c1,hb.cell hn c2,hb.cell hn c3,hb.cell hn c4,hb.cell hn c5,hb.cell hn c6,hb.cell hn c7,hb.cell hn c8,hb.cell hn c9,hk.but hb hS⟩
theorem DZ.mono {R T:Nat->Prop} {w:World} {no:Option Addr} {ns:List Nj} (h:DZ w R no ns) (hR:∀ b,b < w.heap.size->R b->T b):DZ w T no ns:=fun k x hx=>by obtain ⟨b,off,ko,kc,e,hlt,hr,c0,c1,c2,c3,c4,c5,c6,c7,c8,c9,hk⟩:=h k x hx;exact ⟨b,off,ko,kc,e,hlt,⟨hR b hlt hr.1,hr.2⟩,c0,c1,c2,c3,c4,c5,c6,c7,c8,c9,hk.mono hR⟩
def DY (w:World) (R:Nat->Prop) (ho:Option Addr) (hs:List Hj):Prop:=∀ (k:Nat) (x:Hj),hs[k]?=some x->∃ b off,ho=some ⟨b,off,none⟩/\b < w.heap.size/\R b ∧
 w.cell? ⟨b,off + k * 3,none⟩=some (.int .i64 (x.mo:Int))/\w.cell? ⟨b,off + k * 3 + 1,none⟩=some (.string x.nm)/\w.cell? ⟨b,off + k * 3 + 2,none⟩=some (.int .i64 (x.bo:Int))
theorem DY.but {S R:Nat->Prop} {w w':World} {ho:Option Addr} {hs:List Hj} (h:DY w R ho hs) (hb:But S w w') (hS:∀ j,j < w.heap.size->R j->¬ S j):DY w' R ho hs:=fun k x hx=>by obtain ⟨b,off,e,hlt,hr,c0,c1,c2⟩:=h k x hx;have hn:=hS b hlt hr;exact ⟨b,off,e,aL hlt hb.size,hr,hb.cell hn c0,hb.cell hn c1,hb.cell hn c2⟩
theorem DY.mono {R T:Nat->Prop} {w:World} {ho:Option Addr} {hs:List Hj} (h:DY w R ho hs) (hR:∀ b,b < w.heap.size->R b->T b):DY w T ho hs:=fun k x hx=>by obtain ⟨b,off,e,hlt,hr,c0,c1,c2⟩:=h k x hx;exact ⟨b,off,e,hlt,hR b hlt hr,c0,c1,c2⟩
def Zp (w:World) (R:Nat->Prop) (ao:Option Addr) (L:List Int):Prop:=∀ (k:Nat) (x:Int),L[k]?=some x->∃ b off,ao=some ⟨b,off,none⟩/\b < w.heap.size/\R b/\w.cell? ⟨b,off + k,none⟩=some (.int .i64 x)
theorem Zp.but {S R:Nat->Prop} {w w':World} {ao:Option Addr} {L:List Int} (h:Zp w R ao L) (hb:But S w w') (hS:∀ j,j < w.heap.size->R j->¬ S j):Zp w' R ao L:=fun k x hx=>by obtain ⟨b,off,e,hlt,hr,c⟩:=h k x hx;exact ⟨b,off,e,aL hlt hb.size,hr,hb.cell (hS b hlt hr) c⟩
theorem Zp.mono {R T:Nat->Prop} {w:World} {ao:Option Addr} {L:List Int} (h:Zp w R ao L) (hR:∀ b,b < w.heap.size->R b->T b):Zp w T ao L:=fun k x hx=>by obtain ⟨b,off,e,hlt,hr,c⟩:=h k x hx;exact ⟨b,off,e,hlt,hR b hlt hr,c⟩
theorem B0E {S:Nat->Prop} {w:World} {ao:Option Addr} {n c:Nat} {L:List Int} (h:Win S 3 1 w (.slice ao n c) n (L.map (Value.int .i64))):Zp w S ao L:=fun k x hx=>by
 have hk:k < L.length:=(aS.1 hx).1;have hn:L.length=n:=by have:=h.1;simpa using this
 obtain ⟨ao',cap,e1,h1,h2,hf⟩:=h.form;injection e1 with e1 e2 e3;subst e1;obtain ⟨g,off,e,hs,hg,hc,_⟩:=hf k (by omega);exact ⟨g,off,e,hg,hs,by rw [hc,List.getElem?_map,hx];rfl⟩
def mG (w:World) (R:Nat->Prop) (gr:Gj) (a:Gv):Prop:=DZ w R a.no gr.ns/\DY w R a.ho gr.hs/\Zp w R a.wo gr.ws/\nJ w R a.mo gr.ms
theorem mG.but {S R:Nat->Prop} {w w':World} {gr:Gj} {a:Gv} (h:mG w R gr a) (hb:But S w w') (hS:∀ j,j < w.heap.size->R j->¬ S j):mG w' R gr a:=⟨h.1.but hb hS,h.2.1.but hb hS,h.2.2.1.but hb hS,h.2.2.2.but hb hS⟩
theorem mG.mono {R T:Nat->Prop} {w:World} {gr:Gj} {a:Gv} (h:mG w R gr a) (hR:∀ b,b < w.heap.size->R b->T b):mG w T gr a:=⟨h.1.mono hR,h.2.1.mono hR,h.2.2.1.mono hR,h.2.2.2.mono hR⟩
abbrev dG (w:World) (gr:Gj) (a:Gv):Prop:=mG w (fun _=>True) gr a
theorem mG.below {R:Nat->Prop} {w w':World} {gr:Gj} {a:Gv} (h:mG w R gr a) (hb:Below w.heap.size w w'):mG w' R gr a:=h.but (S:=fun _=>False) (But.of_below hb) fun _ _ _ h=>h
def JoE (D:Nat) (r:Except Ft3 Gj) (e:Ending) (w':World):Prop:=match r with
 | .ok gr=>∃ a,e=.returned (.tuple #[grv gr a,.agg #[.int .i64 0,.int .i64 0,.int .i64 0,.int .i64 0]])/\mG w' (fun b=>D<=b) gr a
 | .error f=>e=.returned (.tuple #[.agg #[.slice none 0 0,.slice none 0 0,.slice none 0 0,.slice none 0 0,.int .i64 0],.agg #[.int .i64 f.1,.int .i64 0,.int .i64 f.2.1,.int .i64 f.2.2]])/\f.1 ≠ 0
def mO (ms:List ByteArray) (hs:List Hj) (ws:List Int) (FL:List Nat):Rw
 | 1=>(ms.length,ms.map Value.string)
 | 3=>(hs.length,hs.flatMap zD)
 | 4=>(ws.length,ws.map (Value.int .i64))
 | 5=>(FL.length,lD FL)
 | _=>(0,[])
theorem B6R (ms:List ByteArray) (hs:List Hj) (ws:List Int) (FL:List Nat) (x:ByteArray):∀ k,upd (mO ms hs ws FL) 1 ((mO ms hs ws FL 1).1 + 1,(mO ms hs ws FL 1).2 ++ [Value.string x]) k=mO (ms ++ [x]) hs ws FL k
 | 0=>rfl
 | 1=>by rw [upd_same];show (ms.length + 1,ms.map Value.string ++ [Value.string x])=((ms ++ [x]).length,(ms ++ [x]).map Value.string);simp
 | 2=>rfl
 | 3=>rfl
 | 4=>rfl
 | 5=>rfl
 | _ + 6=>rfl
theorem B6S (ms:List ByteArray) (hs:List Hj) (ws:List Int) (FL:List Nat) (x:Hj):∀ k,upd (mO ms hs ws FL) 3 ((mO ms hs ws FL 3).1 + 1,(mO ms hs ws FL 3).2 ++ zD x) k=mO ms (hs ++ [x]) ws FL k
 | 0=>rfl
 | 1=>rfl
 | 2=>rfl
 | 3=>by rw [upd_same];show (hs.length + 1,hs.flatMap zD ++ zD x)=((hs ++ [x]).length,(hs ++ [x]).flatMap zD);simp
 | 4=>rfl
 | 5=>rfl
 | _ + 6=>rfl
theorem B6T (ms:List ByteArray) (hs:List Hj) (ws:List Int) (FL:List Nat) (x:Int):∀ k,upd (mO ms hs ws FL) 4 ((mO ms hs ws FL 4).1 + 1,(mO ms hs ws FL 4).2 ++ [Value.int .i64 x]) k=mO ms hs (ws ++ [x]) FL k
 | 0=>rfl
 | 1=>rfl
 | 2=>rfl
 | 3=>rfl
 | 4=>by rw [upd_same];show (ws.length + 1,ws.map (Value.int .i64) ++ [Value.int .i64 x])=((ws ++ [x]).length,(ws ++ [x]).map (Value.int .i64));simp
 | 5=>rfl
 | _ + 6=>rfl
theorem A5U:∀ (ML:List Md) (s:Nat),(∀ m ∈ ML,m.ru.length<=24)->∀ x ∈ kU ML s,x<=s + 24 * ML.length
 | [],s,_,x,hx=>by unfold kU at hx;simp at hx
 | m :: r,s,h,x,hx=>by
  unfold kU at hx;have h1:=h m (List.mem_cons_self ..);rcases List.mem_cons.1 hx with rfl | hx
  · simp
  · have:=A5U r (s + m.ru.length) (fun y hy=>h y (List.mem_cons_of_mem _ hy)) x hx;rw [List.length_cons];omega
theorem Wk.start (w0:World) (lv:Value):Wk w0 (w0.alloc (.cells #[lv,.slice none 0 0,.slice none 0 0,.slice none 0 0,.slice none 0 0,.int .i64 0,.slice none 0 0,.int .i64 0,.int .i64 0,.int .i64 0,.int .i64 0] 71)) w0.heap.size (fun b=>if b=w0.heap.size then 9 else 0) (fun _=>(0,[])) (fun _=>.slice none 0 0) lv 0 none:=by
 have hb:Below w0.heap.size w0 (w0.alloc (.cells #[lv,.slice none 0 0,.slice none 0 0,.slice none 0 0,.slice none 0 0,.int .i64 0,.slice none 0 0,.int .i64 0,.int .i64 0,.int .i64 0,.int .i64 0] 71)):=bA _;refine ⟨hb,Nat.le_refl _,if_pos rfl,fun b hc=>?_,Own.fresh w0 71 _,fun i h1 h5=>Win.nil _ _ _ _,fun f e=>by cases e⟩;by_cases e:b=w0.heap.size
 · subst e;simp
 · exact absurd (if_neg e) hc
section
variable {w0 w w' w3 wq:World} {g:Nat} {c:Nat->Nat} {rows rows':Rw} {v:Nat->Value} {lv:Value} {st:Int} {F:Option Ft3} {N:List Nj}
theorem Jn.grown {Z:List Zj} (h:Wk w0 w g c (upd rows 2 (Z.length,Z.flatMap tyN)) v lv st F) (hZ:Z.map (·.n)=N) (hK:∀ z ∈ Z,Il w (fun b=>c b=7) z) (hq:Below w.heap.size w wq) {i:Nat} (h1:1<=i) (h5:i<=5) (h2:i ≠ 2) {v':Value} {m:Nat} {news:List Value}
  (hw:Win (fun b=>c b=i\/wq.heap.size<=b) (tyJ i) (szJ i) w3 v' ((rows i).1 + m) ((rows i).2 ++ news)) (hb:But (fun b=>c b=i) wq w3) (hr:∀ k,upd rows i ((rows i).1 + m,(rows i).2 ++ news) k=rows' k) :
  Jn w0 (w3.setCell ⟨g,ceJ i,none⟩ v') g (Qj c wq w3 i) rows' lv st N F:=by
 have hG:=h.grown hq (i:=i) (v':=v') (m:=m) (news:=news) h1 h5 (by rw [iB _ _ h2];exact hw) hb;refine ⟨_,Z,hG.1.rows_eq fun k k1 k5=>?_,hZ,Ml hK hG.2.1 (fun b hlt h7 hs=>?_) hG.2.2⟩
 ·
  by_cases e2:k=2
  · subst e2;rw [iB _ _ (fun e=>h2 e.symm),upd_same,upd_same]
  ·
   by_cases ei:k=i
   · subst ei;rw [upd_same,iB rows' _ e2,<- hr k,upd_same,iB rows _ e2]
   · rw [iB _ _ ei,iB _ _ e2,iB _ _ e2,<- hr k,iB _ _ ei]
 ·
  rcases hs with hs | hs
  · rw [hs,h.cg] at h7;omega
  · have hs:c b=i:=hs;omega
theorem Jn.hasG {ms:List ByteArray} {hs:List Hj} {ws:List Int} {FL:List Nat} (h:Jn w0 w g c (mO ms hs ws FL) lv st N F):∃ a,Own w g 71 [lv,.slice a.mo ms.length a.mc,.slice a.no N.length a.nc,.slice a.ho hs.length a.hc,.slice a.wo ws.length a.wc,.int .i64 st,(h.choose 5),.int .i64 (e3 F),.int .i64 0,.int .i64 (m3 F),.int .i64 (r3 F)]/\mG w (fun b=>w0.heap.size<=b) ⟨ms,N,hs,ws,st⟩ a:=by
 have hc:=h.choose_spec;generalize h.choose=v at hc ⊢;obtain ⟨Z,hW,hZ,hK⟩:=hc;have w1:=hW.win 1 (by omega) (by omega);have w2:=hW.win 2 (by omega) (by omega);have w3:=hW.win 3 (by omega) (by omega);have w4:=hW.win 4 (by omega) (by omega);rw [iB _ _ (by decide)] at w1 w3 w4;rw [upd_same] at w2;have w1:Win (fun b=>c b=1) 9 1 w (v 1) ms.length (ms.map Value.string):=w1;have w2:Win (fun b=>c b=2) 62 10 w (v 2) Z.length (Z.flatMap tyN):=w2;have w3:Win (fun b=>c b=3) 64 3 w (v 3) hs.length (hs.flatMap zD):=w3;have w4:Win (fun b=>c b=4) 3 1 w (v 4) ws.length (ws.map (Value.int .i64)):=w4;have hl:N.length=Z.length:=by rw [<- hZ,List.length_map]
 obtain ⟨mo,mc,e1,-,-,-⟩:=w1.form;obtain ⟨no,nc,e2,-,-,f2⟩:=w2.form;obtain ⟨ho,hc,e3',-,-,f3⟩:=w3.form;obtain ⟨wo,wc,e4,-,-,-⟩:=w4.form;have ow:Own w g 71 [lv,v 1,v 2,v 3,v 4,.int .i64 st,v 5,.int .i64 (e3 F),.int .i64 0,.int .i64 (m3 F),.int .i64 (r3 F)]:=hW.own;refine ⟨⟨mo,no,ho,wo,mc,nc,hc,wc⟩,?_,?_,?_,?_,?_⟩
 · rw [<- e1,hl,<- e2,<- e3',<- e4];exact ow
 ·
  intro k x hx;obtain ⟨z,hz,rfl⟩:∃ z,Z[k]?=some z/\z.n=x:=by
   rw [<- hZ,List.getElem?_map] at hx
   cases hz:Z[k]? with
   | none=>rw [hz] at hx;simp at hx
   | some z=>rw [hz] at hx;exact ⟨z,rfl,by simpa using hx⟩
  have hk:k < Z.length:=(aS.1 hz).1;have get:∀ j,j < 10->∃ b off,no=some ⟨b,off,none⟩/\b < w.heap.size/\w0.heap.size<=b/\w.cell? ⟨b,off + (k * 10 + j),none⟩=(tyN z)[j]?:=fun j hj=>by obtain ⟨b,off,e,hs,hb,hcc,_⟩:=f2 (k * 10 + j) (by omega);exact ⟨b,off,e,hb,(hW.dom b (by omega)).1,by rw [hcc,JC Z k j z hz hj]⟩
  obtain ⟨b,off,e,hb,hR,c0⟩:=get 0 (by omega);have get2:∀ j,j < 10->w.cell? ⟨b,off + k * 10 + j,none⟩=(tyN z)[j]?:=fun j hj=>by obtain ⟨b',off',e',_,_,hcc⟩:=get j hj;rw [e] at e';injection e' with e';injection e' with e5 e6;subst e5 e6;rw [Nat.add_assoc];exact hcc
  exact ⟨b,off,z.ko,z.kc,e,hb,⟨hR,(hK z (aM hz)).2⟩,get2 0 (by omega),get2 1 (by omega),get2 2 (by omega),get2 3 (by omega),get2 4 (by omega),get2 5 (by omega),get2 6 (by omega),get2 7 (by omega),get2 8 (by omega),get2 9 (by omega),(hK z (aM hz)).1.mono fun b _ h7=>(hW.dom b (by omega)).1⟩
 ·
  intro k x hx;have hk:k < hs.length:=(aS.1 hx).1;have get:∀ j,j < 3->∃ b off,ho=some ⟨b,off,none⟩/\b < w.heap.size/\w0.heap.size<=b/\w.cell? ⟨b,off + (k * 3 + j),none⟩=(zD x)[j]?:=fun j hj=>by obtain ⟨b,off,e,hcb,hb,hcc,_⟩:=f3 (k * 3 + j) (by omega);exact ⟨b,off,e,hb,(hW.dom b (by omega)).1,by rw [hcc,A0K hs k j x hx hj]⟩
  obtain ⟨b,off,e,hb,hR,c0⟩:=get 0 (by omega);have get2:∀ j,j < 3->w.cell? ⟨b,off + k * 3 + j,none⟩=(zD x)[j]?:=fun j hj=>by obtain ⟨b',off',e',_,_,hcc⟩:=get j hj;rw [e] at e';injection e' with e';injection e' with e5 e6;subst e5 e6;rw [Nat.add_assoc];exact hcc
  exact ⟨b,off,e,hb,hR,get2 0 (by omega),get2 1 (by omega),get2 2 (by omega)⟩
 · rw [e4] at w4;exact (B0E w4).mono fun b _ h4=>(hW.dom b (by omega)).1
 · rw [e1] at w1;exact (A0I w1).mono fun b _ h4=>(hW.dom b (by omega)).1
end
theorem gB (w:World) (a:Gv) (gr:Gj):aQ (Below w.heap.size w (w.alloc (.cells #[.slice a.mo gr.ms.length a.mc,.slice a.no gr.ns.length a.nc,.slice a.ho gr.hs.length a.hc,.slice a.wo gr.ws.length a.wc,.int .i64 gr.st] 41))):=aH (bA _)
theorem gO (w:World) (a:Gv) (gr:Gj):aQ (Own (w.alloc (.cells #[.slice a.mo gr.ms.length a.mc,.slice a.no gr.ns.length a.nc,.slice a.ho gr.hs.length a.hc,.slice a.wo gr.ws.length a.wc,.int .i64 gr.st] 41)) w.heap.size 41 [.slice a.mo gr.ms.length a.mc,.slice a.no gr.ns.length a.nc,.slice a.ho gr.hs.length a.hc,.slice a.wo gr.ws.length a.wc,.int .i64 gr.st]):=aH (Own.fresh w 41 [.slice a.mo gr.ms.length a.mc,.slice a.no gr.ns.length a.nc,.slice a.ho gr.hs.length a.hc,.slice a.wo gr.ws.length a.wc,.int .i64 gr.st])
end Go.Proofs.YthkdnehgamefiaaGreat
