import Derived.Test.YthkdnehgamefiaaGreatHj
namespace Go.Proofs.YthkdnehgamefiaaGreat
set_option linter.unusedVariables false
open Go.RowKit Go.Sort
def PrB (D:Nat) (r:Option (List Md)) (e:Ending) (w':World):Prop:=match r with
 | some ML=>∃ mo mc,e=.returned (.tuple #[.slice mo ML.length mc,.bool true])/\MB w' D (.slice mo ML.length mc) ML
 | none=>e=.returned (.tuple #[.slice none 0 0,.bool false])
set_option maxRecDepth 1000000 in
set_option maxHeartbeats 3200000 in
theorem parsed11b_any (l:List ByteArray) (ao:Option Addr) (cap:Nat) (w:World) (hl:gI w ao l):Calls Tryz.prog 6 #[.slice ao l.length cap] w fun e w'=>PrB w.heap.size (mX l) e w'/\Below w.heap.size w w':=by
 have HL:=aH hl;have HPC:=aH (fun (t:ByteArray) (ht:t.size<=1000) W=>uC t (by omega) W);obtain ⟨n,hnn⟩:∃ n,l.length=n:=⟨_,rfl⟩;have HN:=aH hnn;obtain ⟨big,hbig⟩:∃ b,decide (5 < l.length)=b:=⟨_,rfl⟩;have HBIG:=aH (show big=decide (5 < n) from by rw [<- hbig,hnn]);obtain ⟨RES,hres⟩:∃ r,mX l=r:=⟨_,rfl⟩;have HS0:=aH (show RES=(iI big (l.drop 0)).map (([]:List Md) ++ ·) from by rw [<- hres,List.drop_zero];unfold mX;rw [hbig];cases iI big l <;> rfl);have HB0:=aH (Below.refl w.heap.size w);have HM0:=aH (MB.start w w.heap.size);rw [hres,hnn];clear hl hnn hbig hres;go_enter Tryz.func6,Tryz.ntmps6;go_wp2_with fail
 go_loopw [4,5] (fun v4 v5 wr=>∃ (k:Nat) (ML:List Md) (mo:Option Addr) (mc:Nat),v4=.slice mo ML.length mc/\v5=.int .i64 (k:Int)/\(k:Int)<=n/\aQ (RES=(iI big (l.drop k)).map (ML ++ ·))/\aQ (ML.length=k) ∧
   aQ (MB wr w.heap.size (.slice mo ML.length mc) ML)/\aQ (Below w.heap.size w wr)) (fun _ v5 _=>n - (intOf v5).toNat)
 case atStart=>exact ⟨0,[],none,0,rfl,rfl,by omega,HS0,aH rfl,HM0,HB0⟩
 case round =>
  obtain ⟨k,ML,mo,mc,rfl,rfl,hk,HS,HKL,HM,HB⟩:=hrel;clear HS0 HM0 HB0;obtain ⟨nm,hnm⟩:∃ z,ML.length=z:=⟨_,rfl⟩;have HNM:=aH hnm;rw [hnm] at HM;rw [hnm];clear hnm;by_cases hlt:(k:Int) < n
  ·
   obtain ⟨t,ht⟩:∃ t,l[k]?=some t:=⟨_,aG (by have:=HN.o;omega)⟩
   have HD:=aH (show l.drop k=t :: l.drop (k + 1) from by
    obtain ⟨h1,h2⟩:=aS.1 ht
    rw [List.drop_eq_getElem_cons h1,h2])
   obtain ⟨b,off,hao,hb,c0⟩:=HL.o k t ht;have hbw:b < wr.heap.size:=aL hb HB.o.size;have c0':=aC c0 HB.o;rw [hao];clear ht c0 hb;by_cases h5:(5:Int) < n
   ·
    have g5:decide ((5:Int) < n)=true:=aT h5;have HE:=aH (show RES=none from by rw [HS.o,HD.o];exact kM (by rw [HBIG.o,aT (by omega)];rfl));clear hao;go_wp2
    go_ret2
    exact ⟨by rw [HE.o];rfl,HB.o⟩
   ·
    have g5:decide ((5:Int) < n)=false:=aF h5;have HBF:=aH (show big=false from by rw [HBIG.o];exact aF (by omega));by_cases hs:(1000:Int) < t.size
    ·
     have gs:decide ((1000:Int) < t.size)=true:=aT hs;have HE:=aH (show RES=none from by rw [HS.o,HD.o];exact kM (by rw [HBF.o,aT (by omega)];rfl));clear hao;go_wp2
     go_ret2
     exact ⟨by rw [HE.o];rfl,HB.o⟩
    ·
     have gs:decide ((1000:Int) < t.size)=false:=aF hs;have HTS:=aH (show (big || decide (1000 < t.size))=false from by rw [HBF.o,aF (by omega)];rfl);have HC:=aH (HPC.o t (by omega) wr);have hw1:IntKind.i64.wrap ((k:Int) + 1)=(k:Int) + 1:=wI;obtain ⟨r,hr⟩:∃ r,yU t=r:=⟨_,rfl⟩;have HR:=aH hr;rw [hr] at HC;clear hao hr;go_wp2_with fail;refine HC.o.mono ?_;rintro e w1 ⟨he,hb1⟩
     cases r
     case error f =>
      obtain ⟨rfl,hf⟩:=he;have HE:=aH (show RES=none from by rw [HS.o,HD.o];exact Bu HR.o);have ef:(f.1 != 0)=true:=bne_iff_ne.2 hf;have HB1:=aH (((HB.o.trans (hb1.mono HB.o.size)).alloc (by have:=HB.o.size;have:=hb1.size;omega) (.cells #[.string ⟨#[]⟩,.slice none 0 0,.bool false,.int .i64 0,.string ⟨#[]⟩,.int .u64 0,.int .u64 0,.int .u64 0,.int .u64 0,.slice none 0 0,.slice none 0 0] 35)).alloc (by have:=HB.o.size;have:=hb1.size;simp;omega) (.cells #[.int .i64 f.1,.int .i64 f.2,.int .i64 0,.int .i64 0] 44));have HO1:=aH (Own.fresh (w1.alloc (.cells #[.string ⟨#[]⟩,.slice none 0 0,.bool false,.int .i64 0,.string ⟨#[]⟩,.int .u64 0,.int .u64 0,.int .u64 0,.int .u64 0,.slice none 0 0,.slice none 0 0] 35)) 44 [.int .i64 f.1,.int .i64 f.2,.int .i64 0,.int .i64 0]);clear hb1 hf c0' hbw;go_upto_region 8 with fail;have HG1:=aH (show (w1.alloc (.cells #[.string ⟨#[]⟩,.slice none 0 0,.bool false,.int .i64 0,.string ⟨#[]⟩,.int .u64 0,.int .u64 0,.int .u64 0,.int .u64 0,.slice none 0 0,.slice none 0 0] 35)).heap.size=w1.heap.size + 1 from by simp);rw [HG1.o] at HO1;generalize (w1.alloc (.cells #[.string ⟨#[]⟩,.slice none 0 0,.bool false,.int .i64 0,.string ⟨#[]⟩,.int .u64 0,.int .u64 0,.int .u64 0,.int .u64 0,.slice none 0 0,.slice none 0 0] 35)).alloc _=w2 at *;obtain ⟨z0,z1,z2,z3,-⟩:=HO1.o.four;have zl:=HO1.o.lt;go_wp2
      go_ret2
      exact ⟨by rw [HE.o];rfl,HB1.o⟩
     case ok m =>
      obtain ⟨io,ic,ko,kc,ro,rc,n1,rfl,qi,qr,q1,q2,q3⟩:=he;have HSN:=aH (show RES=(iI big (l.drop (k + 1))).map ((ML ++ [m]) ++ ·) from by rw [HS.o,HD.o];exact Br _ _ _ _ HTS.o HR.o);have HMI:=aH (show MIn w1 (fun b=>wr.heap.size<=b/\b < w1.heap.size) n1 ⟨m,io,ic,ko,kc,ro,rc⟩ from ⟨q1.mono fun b hb hb2=>⟨hb2,hb⟩,fM.ofE q2,mR.of q3,qi,qr⟩);have hbl2:Below w1.heap.size w1 ((w1.alloc (.cells #[.string m.nm,.slice io m.im.length ic,.bool m.wet,.int .i64 m.wa.op,.string m.wa.text,.int .u64 m.wa.s0,.int .u64 m.wa.s1,.int .u64 m.wa.s2,.int .u64 m.wa.s3,.slice ko m.wa.kids.length kc,.slice ro m.ru.length rc] 35)).alloc (.cells #[.int .i64 0,.int .i64 0,.int .i64 0,.int .i64 0] 44)):=(bA _).alloc (by simp) _;have HB2:=aH ((HB.o.trans (hb1.mono HB.o.size)).trans (hbl2.mono (by have:=HB.o.size;have:=hb1.size;omega)));have HX2:=aH ((Own.fresh w1 35 [.string m.nm,.slice io m.im.length ic,.bool m.wet,.int .i64 m.wa.op,.string m.wa.text,.int .u64 m.wa.s0,.int .u64 m.wa.s1,.int .u64 m.wa.s2,.int .u64 m.wa.s3,.slice ko m.wa.kids.length kc,.slice ro m.ru.length rc]).on_alloc (.cells #[.int .i64 0,.int .i64 0,.int .i64 0,.int .i64 0] 44));have HO2:=aH (Own.fresh (w1.alloc (.cells #[.string m.nm,.slice io m.im.length ic,.bool m.wet,.int .i64 m.wa.op,.string m.wa.text,.int .u64 m.wa.s0,.int .u64 m.wa.s1,.int .u64 m.wa.s2,.int .u64 m.wa.s3,.slice ko m.wa.kids.length kc,.slice ro m.ru.length rc] 35)) 44 [.int .i64 0,.int .i64 0,.int .i64 0,.int .i64 0]);have HB1:=aH hb1;have HBL:=aH hbl2;clear hbl2 hb1 q1 q2 q3 c0' hbw;go_upto_region 8 with fail;have HG1:=aH (show (w1.alloc (.cells #[.string m.nm,.slice io m.im.length ic,.bool m.wet,.int .i64 m.wa.op,.string m.wa.text,.int .u64 m.wa.s0,.int .u64 m.wa.s1,.int .u64 m.wa.s2,.int .u64 m.wa.s3,.slice ko m.wa.kids.length kc,.slice ro m.ru.length rc] 35)).heap.size=w1.heap.size + 1 from by simp);rw [HG1.o] at HO2;generalize (w1.alloc (.cells #[.string m.nm,.slice io m.im.length ic,.bool m.wet,.int .i64 m.wa.op,.string m.wa.text,.int .u64 m.wa.s0,.int .u64 m.wa.s1,.int .u64 m.wa.s2,.int .u64 m.wa.s3,.slice ko m.wa.kids.length kc,.slice ro m.ru.length rc] 35)).alloc _=w2 at *;obtain ⟨y0,y1,y2,y3,-⟩:=HO2.o.four;have yl:=HO2.o.lt;obtain ⟨z0,z1,z2,z3,z4,z5,z6,z7,z8,z9,zA⟩:=HX2.o.elev;have zl:=HX2.o.lt;obtain ⟨S,R,Z,nz,s1,s2,s3,s4,s5⟩:=HM.o;have HLZ:=aH (show Z.length=nm from by rw [<- HNM.o,<- s3,List.length_map]);have HS1:=aH s1;have HS2:=aH s2;have HS3:=aH s3;have HS5:=aH s5;have HW:=aH ((s4.below HB1.o).below HBL.o);rw [HLZ.o] at HW;clear s1 s2 s3 s4 s5;obtain ⟨i0,hi,hz0,hz1,hz2⟩:=cZ Az;have HNEW:=aH (fun W=>bD W 35 (iD ⟨m,io,ic,ko,kc,ro,rc⟩));have HCEL:=aH (show ∀ u ∈ iD ⟨m,io,ic,ko,kc,ro,rc⟩,u.oneCell'=true by intro u hu;simp [iD] at hu;rcases hu with rfl | rfl | rfl | rfl | rfl | rfl | rfl | rfl | rfl | rfl | rfl <;> rfl);have hnm5:nm<=5:=by have:=HNM.o;have:=HKL.o;omega
      go_wp2_with (first
       | (at_builtin;refine aX _ rfl _ _ 23 rfl S 35 i0 _ 11 152 Tryz.underlying23 hi hz0 hz1 hz2 rfl (by decide) _ nm (Z.flatMap iD) rfl (HW.o.below (bA _)) ⟨w2.heap.size,0,none⟩ 1 1 (iD ⟨m,io,ic,ko,kc,ro,rc⟩) rfl rfl (HNEW.o w2) HCEL.o (by unfold maxLen;omega) (by omega) ?_))
      intro v' w4 hw4 hb4;have hblx:Below w2.heap.size w2 (w2.alloc (.cells #[.string m.nm,.slice io m.im.length ic,.bool m.wet,.int .i64 m.wa.op,.string m.wa.text,.int .u64 m.wa.s0,.int .u64 m.wa.s1,.int .u64 m.wa.s2,.int .u64 m.wa.s3,.slice ko m.wa.kids.length kc,.slice ro m.ru.length rc] 35)):=bA _
      have HMN:=aH (show MB w4 w.heap.size v' (ML ++ [m]) from by
       rw [<- HS3.o]
       exact MB.add (z:=⟨m,io,ic,ko,kc,ro,rc⟩) HB.o.size HS1.o HS2.o HS5.o HB1.o HMI.o (HBL.o.trans (hblx.mono HBL.o.size)) (by rw [HLZ.o];exact hw4.mono (fun j _ h=>by simpa using h)) hb4)
      have HB4:=aH ((HB2.o.trans (hblx.mono HB2.o.size)).trans (hb4.below (B:=w.heap.size) (by have:=HB2.o.size;have:=hblx.size;omega) (fun j hs=>(HS1.o j (.inr hs)).1)));obtain ⟨mo',mc',hv⟩:=HMN.o.form;have HLN:=aH (show (ML ++ [m]).length=nm + 1 from by rw [List.length_append,HNM.o];rfl);rw [HLN.o] at hv;subst hv;clear hw4 hb4 hblx y0 y1 y2 y3 yl z0 z1 z2 z3 z4 z5 z6 z7 z8 z9 zA zl;go_wp2
      go_roundw
      case rel=>exact ⟨k + 1,ML ++ [m],mo',mc',by rw [HLN.o],by go_num,by omega,HSN,aH (by rw [HLN.o];have:=HNM.o;have:=HKL.o;omega),by rw [HLN.o];exact HMN,HB4⟩
      case measure=>simp [intOf];omega
  ·
   have HE:=aH (show RES=some ML from by rw [HS.o,List.drop_eq_nil_of_le (by have:=HN.o;omega)];unfold iI;simp);have hlt':decide ((k:Int) < n)=false:=aF hlt;go_wp2
   go_ret2
   refine ⟨?_,HB.o⟩;rw [HE.o];exact ⟨mo,mc,(by rw [HNM.o];rfl),by have h:=HM.o;rw [<- HNM.o] at h;exact h⟩
theorem parsed11_any (l:List ByteArray) (ao:Option Addr) (cap:Nat) (w:World) (hl:gI w ao l):Calls Tryz.prog 6 #[.slice ao l.length cap] w fun e w'=>PrE w.heap.size (mX l) e w'/\Below w.heap.size w w' :=
 (parsed11b_any l ao cap w hl).mono fun e w' h=>by
  obtain ⟨h1,h2⟩:=h;refine ⟨?_,h2⟩
  cases hr:mX l with
  | none=>rw [hr] at h1;exact h1
  | some ML =>
   rw [hr] at h1;obtain ⟨mo,mc,he,hm⟩:=h1;exact ⟨mo,mc,he,hm.has⟩
end Go.Proofs.YthkdnehgamefiaaGreat
