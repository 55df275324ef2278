import Derived.Test.YthddifjhoniacaaHd
import Derived.Test.YthddifjhoniacaaHn
namespace Go.Proofs.Ythddifjhoniacaa
set_option linter.unusedVariables false
open Go.RowKit Go.Sort
def offC (mod x:ByteArray):Bool:=!(mod.toList == []) && !(mod.toList == x.toList)
theorem beq_turn (a b:List UInt8):(a == b)=(b == a):=by
 by_cases h:a=b
 · subst h;rfl
 · rw [aN.2 h,aN.2 (fun e=>h e.symm)]
theorem offC_eq (mod x nm:ByteArray) (h:nm.toList=x.toList):offC mod x=offB mod nm:=by unfold offC offB;rw [h,beq_turn mod.toList x.toList]
def rresF (l:List Md) (i0:Int) (mod name:ByteArray):Nat->List ByteArray->Rv
 | _,[]=>(0,0,false)
 | i,x :: r=>if offC mod x=true then rresF l i0 mod name (i + 1) r
  else if (if 0 < i then findN l x else i0) < 0 then rresF l i0 mod name (i + 1) r
  else match l[(if 0 < i then findN l x else i0).toNat]? with
   | none=>(0,0,false)
   | some m=>if 0<=ruleN m name then ((if 0 < i then findN l x else i0),ruleN m name,true) else rresF l i0 mod name (i + 1) r
theorem find_at {l:List Md} {x:ByteArray} (h:0<=findN l x):∃ m,l[(findN l x).toNat]?=some m/\m.nm.toList=x.toList:=by obtain ⟨m,h1,h2⟩:=idxF_at (fun m:Md=>m.nm.toList == x.toList) 0 l h;exact ⟨m,by rw [Nat.sub_zero] at h1;exact h1,by simpa using h2⟩
theorem rres_tail (l:List Md) (i0:Int) (mod name:ByteArray):∀ (im:List ByteArray) (j:Nat),0 < j->rresF l i0 mod name j im=resF l mod name ((im.map (findN l)).filter (fun k=>decide (0<=k)))
 | [],j,hj=>rfl
 | x :: r,j,hj=>by
  have ih:=rres_tail l i0 mod name r (j + 1) (by omega);unfold rresF;rw [if_pos hj,ih,List.map_cons];by_cases h:0<=findN l x
  ·
   rw [List.filter_cons_of_pos (by simpa using h)];obtain ⟨m,h1,h2⟩:=find_at h
   conv=>rhs;unfold resF
   rw [h1,offC_eq mod x m.nm h2,if_neg (by omega:¬ findN l x < 0)]
  · rw [List.filter_cons_of_neg (by simpa using h),if_pos (by omega:findN l x < 0)];split <;> rfl
theorem rres_eq {l:List Md} {i:Nat} {m:Md} (hm:l[i]?=some m) (mod name:ByteArray):rresF l (i:Int) mod name 0 (m.nm :: m.im)=resF l mod name (seenL l m i):=by have h:=rres_tail l (i:Int) mod name m.im 1 (by omega);unfold rresF seenL;rw [resF_cons hm,h,if_neg (by omega:¬ (0:Nat) < 0),offC_eq mod m.nm m.nm rfl,if_neg (by omega:¬ (i:Int) < 0),Int.toNat_natCast,hm]
set_option maxRecDepth 1000000 in
set_option maxHeartbeats 1600000 in
theorem rresolve_any (ML:List Md) (D:Nat) (mo:Option Addr) (mc:Nat) (i:Int) (ref:ByteArray) (hr:ref.size<=1000000) (hf:Few ML) (w:World) (hM:HasMs w D mo ML) :
  Calls Try.prog 58 #[.slice mo ML.length mc,.int .i64 i,.string ref] w fun e w'=>e=.returned (rvV (resO ML i ref))/\Below w.heap.size w w':=by
 have HSP:=aH (rsplit_any ref hr w);have HM0:=aH hM;have HFW:=aH hf;have hn:=hf.1;have HRS:=aH (show resO ML i ref=if splitB ref=true/\0<=i/\i < ML.length then (match ML[i.toNat]? with | none=>(0,0,false) | some m=>resF ML (splitM ref) (splitR ref) (seenL ML m i)) else (0,0,false) from rfl);have HFD:=aH (fun (s:ByteArray) W (hW:HasMs W D mo ML)=>rfind_any ML D mo mc s hf.1 W hW);generalize resO ML i ref=RES at *;obtain ⟨mod,hmod⟩:∃ z,splitM ref=z:=⟨_,rfl⟩;obtain ⟨nam,hnam⟩:∃ z,splitR ref=z:=⟨_,rfl⟩;obtain ⟨z,hz⟩:∃ z,splitB ref=z:=⟨_,rfl⟩;rw [hmod,hnam,hz] at HSP HRS;clear hM hf hmod hnam hz;obtain ⟨n,hnn⟩:∃ n,ML.length=n:=⟨_,rfl⟩;have HN:=aH hnn;rw [hnn] at hn HRS HFD ⊢;clear hnn;go_enter Try.func58,Try.ntmps58;go_wp2_with fail;refine HSP.o.mono ?_;rintro e w1 ⟨rfl,hb1⟩;have HB1:=aH hb1;have HM1:=aH (HM0.o.below hb1);clear hb1 HSP
 cases z with
 | false =>
  have HE:=aH (show RES=(0,0,false) from by rw [HRS.o,if_neg (by simp)]);go_wp2
  go_ret3
  exact ⟨by rw [HE.o];rfl,HB1.o⟩
 | true =>
  by_cases h0:i < 0
  ·
   have h0':decide (i < 0)=true:=aT h0;have HE:=aH (show RES=(0,0,false) from by rw [HRS.o,if_neg (by omega)]);go_wp2
   go_ret3
   exact ⟨by rw [HE.o];rfl,HB1.o⟩
  ·
   have h0':decide (i < 0)=false:=aF h0;by_cases h1:(n:Int)<=i
   ·
    have h1':decide ((n:Int)<=i)=true:=aT h1;have HE:=aH (show RES=(0,0,false) from by rw [HRS.o,if_neg (by omega)]);go_wp2
    go_ret3
    exact ⟨by rw [HE.o];rfl,HB1.o⟩
   ·
    obtain ⟨q,rfl⟩:∃ q:Nat,i=(q:Int):=⟨i.toNat,by omega⟩;have h1':decide ((n:Int)<=(q:Int))=false:=aF h1;have h1n:decide (n<=q)=false:=aF (by omega);have hqn:(q:Int) < n:=(by omega);obtain ⟨m,hm⟩:∃ m,ML[q]?=some m:=⟨_,aG (by have:=HN.o;omega)⟩;have HE0:=aH (show RES=rresF ML (q:Int) mod nam 0 (m.nm :: m.im) from by rw [HRS.o,if_pos ⟨rfl,by omega,by omega⟩,Int.toNat_natCast,hm,rres_eq hm]);have HIL:=aH ((HFW.o.2 m (aM hm)).1);have HMb:=aH (HM1.o.below (Below.refl _ _).drew);have HBb:=aH HB1.o.drew;obtain ⟨nn,hMr⟩:=HMb.o;obtain ⟨b,off,io,ic,ko,kc,ro,rc,hmo,hb,_,c0,c1,-,-,-,-,-,-,-,-,-,hnr,-⟩:=hMr q m hm;have HNR:=aH hnr.hasN;obtain ⟨ni,hni⟩:∃ z,m.im.length=z:=⟨_,rfl⟩;have HNI:=aH hni;rw [hni] at c1 HIL;have hil:=HIL.o;clear hMr hnr HRS h1 hni;rw [hmo];go_upto_region 4 with fail;refine wp_region_held (S:=fun Wx=>b < Wx.heap.size/\Wx.cell? ⟨b,off + q * 11,none⟩=some (.string m.nm)/\Wx.cell? ⟨b,off + q * 11 + 1,none⟩=some (.slice io ni ic)) (by kernel_rfl) ?_;change wpAnyH _ _ _ _ _ _ _ _ (World.drew _);clear HM1 HB1;generalize World.drew _=wb at *;have HS:=aH (show b < wb.heap.size/\wb.cell? ⟨b,off + q * 11,none⟩=some (.string m.nm)/\wb.cell? ⟨b,off + q * 11 + 1,none⟩=some (.slice io ni ic) from ⟨hb,c0,c1⟩);clear hb c0 c1;refine wpAnyH_take (i:=0) (v:=?_) rfl (by kernel_rfl) (by kernel_rfl) (by kernel_rfl) (fun _ _ _ h=>h) (Or.inl ⟨by rfl,?_⟩) HS.o ?_;rotate_left
    · intro Wx hWx;obtain ⟨q0,q1,q2⟩:=hWx;go_simp;try with_reducible rfl
    go_simp;refine wpAnyH_take (i:=1) (v:=?_) rfl (by kernel_rfl) (by kernel_rfl) (by kernel_rfl) (fun _ _ _ h=>h) (Or.inl ⟨by rfl,?_⟩) HS.o ?_;rotate_left
    · intro Wx hWx;obtain ⟨q0,q1,q2⟩:=hWx;go_simp;try with_reducible rfl
    go_simp;refine wpAnyH_take (i:=2) (v:=?_) rfl (by kernel_rfl) (by kernel_rfl) (by kernel_rfl) (fun _ _ _ h=>h) (Or.inl ⟨by rfl,?_⟩) HS.o ?_;rotate_left
    · intro Wx hWx;obtain ⟨q0,q1,q2⟩:=hWx;go_simp;try with_reducible rfl
    go_simp;refine wpAnyH_take (i:=3) (v:=?_) rfl (by kernel_rfl) (by kernel_rfl) (by kernel_rfl) (fun _ _ _ h=>h) (Or.inl ⟨by rfl,?_⟩) HS.o ?_;rotate_left
    · intro Wx hWx;obtain ⟨q0,q1,q2⟩:=hWx;go_simp;try with_reducible rfl
    go_simp;refine wpAnyH_take (i:=4) (v:=?_) rfl (by kernel_rfl) (by kernel_rfl) (by kernel_rfl) (fun _ _ _ h=>h) (Or.inl ⟨by rfl,?_⟩) HS.o ?_;rotate_left
    · intro Wx hWx;obtain ⟨q0,q1,q2⟩:=hWx;go_simp;try with_reducible rfl
    go_simp;refine wpAnyH_take (i:=6) (v:=?_) rfl (by kernel_rfl) (by kernel_rfl) (by kernel_rfl) (fun _ _ _ h=>h) (Or.inl ⟨by rfl,?_⟩) HS.o ?_;rotate_left
    · intro Wx hWx;obtain ⟨q0,q1,q2⟩:=hWx;go_simp;try with_reducible rfl
    go_simp;refine wpAnyH_take (i:=7) (v:=?_) rfl (by kernel_rfl) (by kernel_rfl) (by kernel_rfl) (fun _ _ _ h=>h) (Or.inl ⟨by rfl,?_⟩) HS.o ?_;rotate_left
    · intro Wx hWx;obtain ⟨q0,q1,q2⟩:=hWx;go_simp;try with_reducible rfl
    go_simp;refine wpAnyH_take (i:=8) (v:=?_) rfl (by kernel_rfl) (by kernel_rfl) (by kernel_rfl) (fun _ _ _ h=>h) (Or.inl ⟨by rfl,?_⟩) HS.o ?_;rotate_left
    · intro Wx hWx;obtain ⟨q0,q1,q2⟩:=hWx;go_simp;try with_reducible rfl
    go_simp;refine wpAnyH_take (i:=9) (v:=?_) rfl (by kernel_rfl) (by kernel_rfl) (by kernel_rfl) (fun _ _ _ h=>h) (Or.inl ⟨by rfl,?_⟩) HS.o ?_;rotate_left
    · intro Wx hWx;obtain ⟨q0,q1,q2⟩:=hWx;go_simp;try with_reducible rfl
    go_simp;refine wpAnyH_take (i:=10) (v:=?_) rfl (by kernel_rfl) (by kernel_rfl) (by kernel_rfl) (fun _ _ _ h=>h) (Or.inl ⟨by rfl,?_⟩) HS.o ?_;rotate_left
    · intro Wx hWx;obtain ⟨q0,q1,q2⟩:=hWx;go_simp;try with_reducible rfl
    go_simp;obtain ⟨i0,hi0,hz0,hz1,hz2⟩:=info_parts7 info_str;have hbl1:Below wb.heap.size wb (wb.alloc (.cells #[.string m.nm] 9)):=bA _;refine held_one (i:=5) (by kernel_rfl) (op_value (v:=.slice (some ⟨wb.heap.size,0,none⟩) 1 1) (w':=wb.alloc (.cells #[.string m.nm] 9)) rfl (by kernel_rfl) (by go_simp) ?_);have HO3:=aH (Own.fresh wb 9 [.string m.nm]);have HB3:=aH (HBb.o.trans (hbl1.mono HBb.o.size));have HM3:=aH (HMb.o.below hbl1);have HNR3:=aH (HNR.o.below hbl1);have HS3:=aH (show b < (wb.alloc (.cells #[.string m.nm] 9)).heap.size/\(wb.alloc (.cells #[.string m.nm] 9)).cell? ⟨b,off + q * 11,none⟩=some (.string m.nm)/\(wb.alloc (.cells #[.string m.nm] 9)).cell? ⟨b,off + q * 11 + 1,none⟩=some (.slice io ni ic) from ⟨aL HS.o.1 hbl1.size,keepc HS.o.2.1 hbl1,keepc HS.o.2.2 hbl1⟩);have HGB:=aH (show w.heap.size<=wb.heap.size/\b < wb.heap.size from ⟨HBb.o.size,HS.o.1⟩);clear hbl1 HBb HMb HNR HS;have HS:=HS3;clear HS3;generalize wb.alloc (.cells #[.string m.nm] 9)=wc at *;generalize wb.heap.size=G1 at *;refine ⟨HS.o,?_⟩;go_simp;refine held_one (i:=11) (by kernel_rfl) (op_appendn rfl (by kernel_rfl) _ _ 22 22 rfl (fun b=>b=G1) 9 i0 _ 1 16 Try.underlying22 hi0 hz0 hz1 hz2 rfl (by decide) (.slice (some ⟨G1,0,none⟩) 1 1) 1 [.string m.nm] rfl (Win.one HO3.o rfl) (.slice io ni ic) ni (m.im.map Value.string) rfl (by have:=Src.ofNames (cap:=ic) HNR3.o;rw [HNI.o] at this;exact this) (by unfold maxLen;omega) (by omega) ?_);intro v2 wd hw2 hb2;have hS1:∀ j,j=G1->w.heap.size<=j/\j ≠ b:=fun j e=>(by have:=HGB.o;omega);have HB4:=aH (HB3.o.trans (hb2.below (B:=w.heap.size) HB3.o.size (fun j e=>(hS1 j e).1)));have HM4:=aH (show HasMs wd D mo ML from HM0.o.below HB4.o);obtain ⟨no,nc,hv2,-⟩:=hw2.form;subst hv2;have HN2:=aH (show HasN wd no (m.nm :: m.im) from hasN_of (c:=nc) (n:=1 + ni) (S:=fun g=>g=G1\/wc.heap.size<=g) (l:=m.nm :: m.im) hw2);have HS4:=aH (show b < wd.heap.size/\wd.cell? ⟨b,off + q * 11,none⟩=some (.string m.nm)/\wd.cell? ⟨b,off + q * 11 + 1,none⟩=some (.slice io ni ic) from ⟨aL HS.o.1 hb2.size,hb2.cell (fun e=>(hS1 _ e).2 rfl) HS.o.2.1,hb2.cell (fun e=>(hS1 _ e).2 rfl) HS.o.2.2⟩);clear hw2 hb2 HB3 HM3 HNR3 HO3 HS hS1;have HS:=HS4;clear HS4;refine ⟨HS.o,?_⟩;go_simp;refine wpAnyH_take (i:=12) (v:=?_) rfl (by kernel_rfl) (by kernel_rfl) (by kernel_rfl) (fun _ _ _ h=>h) (Or.inl ⟨by rfl,?_⟩) HS.o ?_;rotate_left
    · intro Wx hWx;obtain ⟨q0,q1,q2⟩:=hWx;go_simp;try with_reducible rfl
    go_simp;refine wpAnyH_done (by kernel_rfl) ?_ _;clear HS;have hmoE:=aH hmo;clear hmo;obtain ⟨NS,hNS⟩:∃ l,m.nm :: m.im=l:=⟨_,rfl⟩;rw [hNS] at HN2 HE0;have HNL:=aH (show NS.length=1 + ni from by rw [<- hNS,List.length_cons,HNI.o,Nat.add_comm]);clear hNS;have HQ0:=aH (show RES=rresF ML (q:Int) mod nam 0 (NS.drop 0) from by rw [List.drop_zero];exact HE0.o);clear HE0;go_wp2_with fail
    go_loopw [13] (fun v13 wr=>∃ k:Nat,v13=.int .i64 (k:Int)/\(k:Int)<=1 + (ni:Int)/\aQ (RES=rresF ML (q:Int) mod nam k (NS.drop k))/\aQ (HasMs wr D mo ML)/\aQ (HasN wr no NS)/\aQ (Below w.heap.size w wr)) (fun v13 _=>1 + ni - (intOf v13).toNat)
    case atStart=>exact ⟨0,rfl,by omega,HQ0,HM4,HN2,HB4⟩
    case round =>
     obtain ⟨k,rfl,hk,HQ,HM,HI,HB⟩:=hrel;clear HQ0 HM4 HN2 HB4;by_cases hlt:(k:Int) < 1 + (ni:Int)
     ·
      obtain ⟨x,hx⟩:∃ x,NS[k]?=some x:=⟨_,aG (by have:=HNL.o;omega)⟩
      have HD:=aH (show NS.drop k=x :: NS.drop (k + 1) from by
       obtain ⟨h1,h2⟩:=aS.1 hx
       rw [List.drop_eq_getElem_cons h1,h2])
      obtain ⟨b1,off1,hso1,hb1,d0⟩:=HI.o k _ hx
      have HZ:=aH (show RES=if offC mod x=true then rresF ML (q:Int) mod nam (k + 1) (NS.drop (k + 1)) else if (if 0 < k then findN ML x else (q:Int)) < 0 then rresF ML (q:Int) mod nam (k + 1) (NS.drop (k + 1)) else match ML[(if 0 < k then findN ML x else (q:Int)).toNat]? with | none=>(0,0,false) | some m=>if 0<=ruleN m nam then ((if 0 < k then findN ML x else (q:Int)),ruleN m nam,true) else rresF ML (q:Int) mod nam (k + 1) (NS.drop (k + 1)) from by
       rw [HQ.o,HD.o]
       conv=>lhs;unfold rresF)
      have hw1:IntKind.i64.wrap ((k:Int) + 1)=(k:Int) + 1:=wI;obtain ⟨za,hza⟩:∃ z,(mod.toList == [])=z:=⟨_,rfl⟩;obtain ⟨zb,hzb⟩:∃ z,(mod.toList == x.toList)=z:=⟨_,rfl⟩;have HOB:=aH (show offC mod x=(!za && !zb) from by unfold offC;rw [hza,hzb]);have hltn:decide ((k:Int) < 1 + (ni:Int))=true:=aT hlt;clear hx;subst hso1
      cases za with
      | true =>
       have HZ2:=aH (HZ.o.trans (if_neg (by rw [HOB.o];simp)));clear hzb HZ;by_cases hk0:0 < k
       ·
        have hk0i:decide ((0:Int) < (k:Int))=true:=aT (by omega);have hk0n:decide (0 < k)=true:=aT hk0;have HFC:=aH (HFD.o x wr HM.o);have HBDX:=aH (idxF_bd (fun m:Md=>m.nm.toList == x.toList) 0 ML);have HZ3':=aH (show RES=if findN ML x < 0 then rresF ML (q:Int) mod nam (k + 1) (NS.drop (k + 1)) else match ML[(findN ML x).toNat]? with | none=>(0,0,false) | some m=>if 0<=ruleN m nam then (findN ML x,ruleN m nam,true) else rresF ML (q:Int) mod nam (k + 1) (NS.drop (k + 1)) from by rw [HZ2.o,if_pos hk0])
        have hbd:findN ML x=-1\/(0<=findN ML x/\findN ML x < n):=by
         rcases HBDX.o with h5 | h5
         · exact .inl h5
         · have h6:(0:Int)<=findN ML x:=h5.1;have h7:findN ML x < ((0:Nat):Int) + ML.length:=h5.2;exact .inr ⟨h6,by have:=HN.o;omega⟩
        obtain ⟨kq,hkq⟩:∃ z,findN ML x=z:=⟨_,rfl⟩;rw [hkq] at HFC HZ3' hbd;rw [hmoE.o] at HFC;clear hkq HBDX HZ2;go_wp2_with fail;refine HFC.o.mono ?_;rintro e wq ⟨rfl,rfl⟩;by_cases hq0:kq < 0
        ·
         have hq0':decide (kq < 0)=true:=aT hq0;have HE:=aH (HZ3'.o.trans (if_pos hq0));go_wp2
         go_roundw
         case rel=>exact ⟨k + 1,by go_num,by omega,HE,HM,HI,HB⟩
         case measure=>simp [intOf];omega
        ·
         have hq0':decide (kq < 0)=false:=aF hq0;obtain ⟨jj,rfl⟩:∃ j:Nat,kq=(j:Int):=⟨kq.toNat,by omega⟩;have HZ3:=HZ3';obtain ⟨mj,hmj⟩:∃ m,ML[jj]?=some m:=⟨_,aG (by have:=HN.o;omega)⟩;obtain ⟨nn2,hMr⟩:=HM.o;obtain ⟨b5,off5,io5,ic5,ko5,kc5,ro5,rc5,hmo5,hb5,_,g0,g1,g2,g3,g4,g5,g6,g7,g8,g9,gA,-,-,hru⟩:=hMr jj mj hmj;have HRC:=aH (fun W (hW:Below wr.heap.size wr W)=>rrule_any mj D nn2 io5 ic5 ko5 kc5 ro5 rc5 nam ((HFW.o.2 mj (aM hmj)).2) W (hru.but (But.of_below (S:=fun _=>False) hW) (fun _ h=>h.elim)));have hee:b=b5/\off=off5:=(by have h9:=hmo5;rw [hmoE.o] at h9;injection h9 with h9;injection h9 with h9 h10;exact ⟨h9,h10⟩);obtain ⟨rfl,rfl⟩:=hee;have HZ1:=aH (show RES=if 0<=ruleN mj nam then ((jj:Int),ruleN mj nam,true) else rresF ML (q:Int) mod nam (k + 1) (NS.drop (k + 1)) from by rw [HZ3.o,if_neg (by omega),Int.toNat_natCast,hmj]);have hjn:(jj:Int) < n:=(by have:=(aS.1 hmj).1;have:=HN.o;omega);clear hMr hru hmj hmo5;go_wp2_with fail;refine (HRC.o _ (Below.refl _ _)).mono ?_;rintro e w3 ⟨rfl,hb3⟩;have HB3:=aH (HB.o.trans (hb3.mono HB.o.size));have HM3:=aH (HM.o.below hb3);have HI3:=aH (HI.o.below hb3);obtain ⟨qq,hq⟩:∃ q,ruleN mj nam=q:=⟨_,rfl⟩;rw [hq] at HZ1;rw [hq];clear hb3 hq;by_cases h0q:0<=qq
         ·
          have h0q':decide (0<=qq)=true:=aT h0q;have HE:=aH (HZ1.o.trans (if_pos h0q));go_wp2
          go_ret3
          exact ⟨by rw [HE.o];rfl,HB3.o⟩
         ·
          have h0q':decide (0<=qq)=false:=aF h0q;have HE:=aH (HZ1.o.trans (if_neg h0q));go_wp2
          go_roundw
          case rel=>exact ⟨k + 1,by go_num,by omega,HE,HM3,HI3,HB3⟩
          case measure=>simp [intOf];omega
       ·
        have hk0i:decide ((0:Int) < (k:Int))=false:=aF (by omega);have hk0n:decide (0 < k)=false:=aF hk0;have hq0':decide ((q:Int) < 0)=false:=aF (by omega);have HZ3:=aH (show RES=if (q:Int) < 0 then rresF ML (q:Int) mod nam (k + 1) (NS.drop (k + 1)) else match ML[((q:Int)).toNat]? with | none=>(0,0,false) | some m=>if 0<=ruleN m nam then ((q:Int),ruleN m nam,true) else rresF ML (q:Int) mod nam (k + 1) (NS.drop (k + 1)) from by rw [HZ2.o,if_neg hk0])
        obtain ⟨mj,hmj⟩:∃ m,ML[q]?=some m:=⟨_,aG (by have:=HN.o;omega)⟩;obtain ⟨nn2,hMr⟩:=HM.o;obtain ⟨b5,off5,io5,ic5,ko5,kc5,ro5,rc5,hmo5,hb5,_,g0,g1,g2,g3,g4,g5,g6,g7,g8,g9,gA,-,-,hru⟩:=hMr q mj hmj;have HRC:=aH (fun W (hW:Below wr.heap.size wr W)=>rrule_any mj D nn2 io5 ic5 ko5 kc5 ro5 rc5 nam ((HFW.o.2 mj (aM hmj)).2) W (hru.but (But.of_below (S:=fun _=>False) hW) (fun _ h=>h.elim)));have hee:b=b5/\off=off5:=(by have h9:=hmo5;rw [hmoE.o] at h9;injection h9 with h9;injection h9 with h9 h10;exact ⟨h9,h10⟩);obtain ⟨rfl,rfl⟩:=hee;have HZ1:=aH (show RES=if 0<=ruleN mj nam then ((q:Int),ruleN mj nam,true) else rresF ML (q:Int) mod nam (k + 1) (NS.drop (k + 1)) from by rw [HZ3.o,if_neg (by omega),Int.toNat_natCast,hmj]);have hjn:(q:Int) < n:=(by have:=(aS.1 hmj).1;have:=HN.o;omega);clear hMr hru hmj hmo5;go_wp2_with fail;refine (HRC.o _ (Below.refl _ _)).mono ?_;rintro e w3 ⟨rfl,hb3⟩;have HB3:=aH (HB.o.trans (hb3.mono HB.o.size));have HM3:=aH (HM.o.below hb3);have HI3:=aH (HI.o.below hb3);obtain ⟨qq,hq⟩:∃ q,ruleN mj nam=q:=⟨_,rfl⟩;rw [hq] at HZ1;rw [hq];clear hb3 hq;by_cases h0q:0<=qq
        ·
         have h0q':decide (0<=qq)=true:=aT h0q;have HE:=aH (HZ1.o.trans (if_pos h0q));go_wp2
         go_ret3
         exact ⟨by rw [HE.o];rfl,HB3.o⟩
        ·
         have h0q':decide (0<=qq)=false:=aF h0q;have HE:=aH (HZ1.o.trans (if_neg h0q));go_wp2
         go_roundw
         case rel=>exact ⟨k + 1,by go_num,by omega,HE,HM3,HI3,HB3⟩
         case measure=>simp [intOf];omega
      | false =>
       cases zb with
       | true =>
        have HZ2:=aH (HZ.o.trans (if_neg (by rw [HOB.o];simp)));clear HZ;by_cases hk0:0 < k
        ·
         have hk0i:decide ((0:Int) < (k:Int))=true:=aT (by omega);have hk0n:decide (0 < k)=true:=aT hk0;have HFC:=aH (HFD.o x wr HM.o);have HBDX:=aH (idxF_bd (fun m:Md=>m.nm.toList == x.toList) 0 ML);have HZ3':=aH (show RES=if findN ML x < 0 then rresF ML (q:Int) mod nam (k + 1) (NS.drop (k + 1)) else match ML[(findN ML x).toNat]? with | none=>(0,0,false) | some m=>if 0<=ruleN m nam then (findN ML x,ruleN m nam,true) else rresF ML (q:Int) mod nam (k + 1) (NS.drop (k + 1)) from by rw [HZ2.o,if_pos hk0])
         have hbd:findN ML x=-1\/(0<=findN ML x/\findN ML x < n):=by
          rcases HBDX.o with h5 | h5
          · exact .inl h5
          · have h6:(0:Int)<=findN ML x:=h5.1;have h7:findN ML x < ((0:Nat):Int) + ML.length:=h5.2;exact .inr ⟨h6,by have:=HN.o;omega⟩
         obtain ⟨kq,hkq⟩:∃ z,findN ML x=z:=⟨_,rfl⟩;rw [hkq] at HFC HZ3' hbd;rw [hmoE.o] at HFC;clear hkq HBDX HZ2;go_wp2_with fail;refine HFC.o.mono ?_;rintro e wq ⟨rfl,rfl⟩;by_cases hq0:kq < 0
         ·
          have hq0':decide (kq < 0)=true:=aT hq0;have HE:=aH (HZ3'.o.trans (if_pos hq0));go_wp2
          go_roundw
          case rel=>exact ⟨k + 1,by go_num,by omega,HE,HM,HI,HB⟩
          case measure=>simp [intOf];omega
         ·
          have hq0':decide (kq < 0)=false:=aF hq0;obtain ⟨jj,rfl⟩:∃ j:Nat,kq=(j:Int):=⟨kq.toNat,by omega⟩;have HZ3:=HZ3';obtain ⟨mj,hmj⟩:∃ m,ML[jj]?=some m:=⟨_,aG (by have:=HN.o;omega)⟩;obtain ⟨nn2,hMr⟩:=HM.o;obtain ⟨b5,off5,io5,ic5,ko5,kc5,ro5,rc5,hmo5,hb5,_,g0,g1,g2,g3,g4,g5,g6,g7,g8,g9,gA,-,-,hru⟩:=hMr jj mj hmj;have HRC:=aH (fun W (hW:Below wr.heap.size wr W)=>rrule_any mj D nn2 io5 ic5 ko5 kc5 ro5 rc5 nam ((HFW.o.2 mj (aM hmj)).2) W (hru.but (But.of_below (S:=fun _=>False) hW) (fun _ h=>h.elim)));have hee:b=b5/\off=off5:=(by have h9:=hmo5;rw [hmoE.o] at h9;injection h9 with h9;injection h9 with h9 h10;exact ⟨h9,h10⟩);obtain ⟨rfl,rfl⟩:=hee;have HZ1:=aH (show RES=if 0<=ruleN mj nam then ((jj:Int),ruleN mj nam,true) else rresF ML (q:Int) mod nam (k + 1) (NS.drop (k + 1)) from by rw [HZ3.o,if_neg (by omega),Int.toNat_natCast,hmj]);have hjn:(jj:Int) < n:=(by have:=(aS.1 hmj).1;have:=HN.o;omega);clear hMr hru hmj hmo5;go_wp2_with fail;refine (HRC.o _ (Below.refl _ _)).mono ?_;rintro e w3 ⟨rfl,hb3⟩;have HB3:=aH (HB.o.trans (hb3.mono HB.o.size));have HM3:=aH (HM.o.below hb3);have HI3:=aH (HI.o.below hb3);obtain ⟨qq,hq⟩:∃ q,ruleN mj nam=q:=⟨_,rfl⟩;rw [hq] at HZ1;rw [hq];clear hb3 hq;by_cases h0q:0<=qq
          ·
           have h0q':decide (0<=qq)=true:=aT h0q;have HE:=aH (HZ1.o.trans (if_pos h0q));go_wp2
           go_ret3
           exact ⟨by rw [HE.o];rfl,HB3.o⟩
          ·
           have h0q':decide (0<=qq)=false:=aF h0q;have HE:=aH (HZ1.o.trans (if_neg h0q));go_wp2
           go_roundw
           case rel=>exact ⟨k + 1,by go_num,by omega,HE,HM3,HI3,HB3⟩
           case measure=>simp [intOf];omega
        ·
         have hk0i:decide ((0:Int) < (k:Int))=false:=aF (by omega);have hk0n:decide (0 < k)=false:=aF hk0;have hq0':decide ((q:Int) < 0)=false:=aF (by omega);have HZ3:=aH (show RES=if (q:Int) < 0 then rresF ML (q:Int) mod nam (k + 1) (NS.drop (k + 1)) else match ML[((q:Int)).toNat]? with | none=>(0,0,false) | some m=>if 0<=ruleN m nam then ((q:Int),ruleN m nam,true) else rresF ML (q:Int) mod nam (k + 1) (NS.drop (k + 1)) from by rw [HZ2.o,if_neg hk0])
         obtain ⟨mj,hmj⟩:∃ m,ML[q]?=some m:=⟨_,aG (by have:=HN.o;omega)⟩;obtain ⟨nn2,hMr⟩:=HM.o;obtain ⟨b5,off5,io5,ic5,ko5,kc5,ro5,rc5,hmo5,hb5,_,g0,g1,g2,g3,g4,g5,g6,g7,g8,g9,gA,-,-,hru⟩:=hMr q mj hmj;have HRC:=aH (fun W (hW:Below wr.heap.size wr W)=>rrule_any mj D nn2 io5 ic5 ko5 kc5 ro5 rc5 nam ((HFW.o.2 mj (aM hmj)).2) W (hru.but (But.of_below (S:=fun _=>False) hW) (fun _ h=>h.elim)));have hee:b=b5/\off=off5:=(by have h9:=hmo5;rw [hmoE.o] at h9;injection h9 with h9;injection h9 with h9 h10;exact ⟨h9,h10⟩);obtain ⟨rfl,rfl⟩:=hee;have HZ1:=aH (show RES=if 0<=ruleN mj nam then ((q:Int),ruleN mj nam,true) else rresF ML (q:Int) mod nam (k + 1) (NS.drop (k + 1)) from by rw [HZ3.o,if_neg (by omega),Int.toNat_natCast,hmj]);have hjn:(q:Int) < n:=(by have:=(aS.1 hmj).1;have:=HN.o;omega);clear hMr hru hmj hmo5;go_wp2_with fail;refine (HRC.o _ (Below.refl _ _)).mono ?_;rintro e w3 ⟨rfl,hb3⟩;have HB3:=aH (HB.o.trans (hb3.mono HB.o.size));have HM3:=aH (HM.o.below hb3);have HI3:=aH (HI.o.below hb3);obtain ⟨qq,hq⟩:∃ q,ruleN mj nam=q:=⟨_,rfl⟩;rw [hq] at HZ1;rw [hq];clear hb3 hq;by_cases h0q:0<=qq
         ·
          have h0q':decide (0<=qq)=true:=aT h0q;have HE:=aH (HZ1.o.trans (if_pos h0q));go_wp2
          go_ret3
          exact ⟨by rw [HE.o];rfl,HB3.o⟩
         ·
          have h0q':decide (0<=qq)=false:=aF h0q;have HE:=aH (HZ1.o.trans (if_neg h0q));go_wp2
          go_roundw
          case rel=>exact ⟨k + 1,by go_num,by omega,HE,HM3,HI3,HB3⟩
          case measure=>simp [intOf];omega
       | false =>
        have HE:=aH (HZ.o.trans (if_pos (by rw [HOB.o];rfl)));go_wp2
        go_roundw
        case rel=>exact ⟨k + 1,by go_num,by omega,HE,HM,HI,HB⟩
        case measure=>simp [intOf];omega
     ·
      have HE:=aH (show RES=(0,0,false) from by rw [HQ.o,List.drop_eq_nil_of_le (by have:=HNL.o;omega)];rfl);have hlt':decide ((k:Int) < 1 + (ni:Int))=false:=aF hlt;go_wp2
      go_ret3
      exact ⟨by rw [HE.o];rfl,HB.o⟩
theorem impL_len {L:List Tok} {nm:ByteArray}:∀ (f:Nat) (im:List ByteArray) (k:Nat) (im':List ByteArray) (k':Nat),im.length<=4->impL L nm f im k=.ok (im',k')->im'.length<=4
 | 0,im,k,im',k',h,e=>by unfold impL at e;injection e with e;injection e with e1 e2;subst e1;exact h
 | f + 1,im,k,im',k',h,e=>by
  unfold impL at e;split at e
  ·
   split at e
   · cases e
   ·
    rename_i h4
    cases hq:nmeO L (nm :: im) (k + 1) with
    | error x=>simp [hq] at e
    | ok p =>
     obtain ⟨x,k1⟩:=p;simp only [hq] at e
     cases hs:sgnO L [59] k1 with
     | error x=>simp [hs] at e
     | ok k2 =>
      simp only [hs] at e;exact impL_len f _ k2 im' k' (by rw [List.length_append];show im.length + 1<=4;omega) e
  · injection e with e;injection e with e1 e2;subst e1;exact h
theorem rulL_len {L:List Tok}:∀ (f:Nat) (R:List (ByteArray × Ex)) (k:Nat) (R':List (ByteArray × Ex)),R.length<=24->rulL L f R k=.ok R'->R'.length<=24
 | 0,R,k,R',h,e=>by unfold rulL at e;injection e with e;subst e;exact h
 | f + 1,R,k,R',h,e=>by
  unfold rulL at e;split at e
  · injection e with e;subst e;exact h
  ·
   cases hq:nmeO L (R.map (·.1)) k with
   | error x=>simp [hq] at e
   | ok p =>
    obtain ⟨x,k1⟩:=p;simp only [hq] at e;split at e
    · cases e
    ·
     rename_i h24
     cases hb:bodO L k1 with
     | error x=>simp [hb] at e
     | ok p =>
      obtain ⟨y,k2⟩:=p;simp only [hb] at e;exact rulL_len f _ k2 R' (by rw [List.length_append];show R.length + 1<=24;omega) e
theorem hedO_len {L:List Tok} {m:Md} {k:Nat} (h:hedO L=.ok (m,k)):m.im.length<=4:=by
 rw [hedO_q] at h;split at h
 ·
  unfold thenQ at h;split at h
  · cases h
  ·
   rename_i x k1 hx;split at h
   · cases h
   ·
    rename_i k2 _;have h:hdT L x (impL L x (L.length + 1) [] k2)=.ok (m,k):=h
    cases hi:impL L x (L.length + 1) [] k2 with
    | error e=>rw [hi] at h;cases h
    | ok p =>
     obtain ⟨im,k3⟩:=p;rw [hi] at h;have hl:=impL_len _ _ _ _ _ (by simp) hi;have h:watO L x im k3=.ok (m,k):=h;rw [watO_q] at h;split at h
     ·
      cases hb:bodO L (k3 + 1) with
      | error e=>rw [hb] at h;cases h
      | ok p =>
       obtain ⟨y,k4⟩:=p;rw [hb] at h;injection h with h;injection h with h1 h2;subst h1;exact hl
     · injection h with h;injection h with h1 h2;subst h1;exact hl
 · cases h
theorem modO_len {s:ByteArray} {m:Md} (h:modO s=.ok m):m.im.length<=4/\m.ru.length<=24:=by
 unfold modO at h;split at h
 · cases h
 ·
  rename_i L _;rw [modL_q] at h
  cases hh:hedO L with
  | error e=>rw [hh] at h;cases h
  | ok p =>
   obtain ⟨m0,k⟩:=p;rw [hh] at h;have h:mdT m0 (rulL L (L.length + 1) [] k)=.ok m:=h
   cases hr:rulL L (L.length + 1) [] k with
   | error e=>rw [hr] at h;cases h
   | ok R =>
    rw [hr] at h;injection h with h;subst h;have h1:=hedO_len hh;have h2:=rulL_len _ _ _ _ (by simp) hr;exact ⟨h1,h2⟩
theorem prsF_few {big:Bool}:∀ {l:List ByteArray} {ML:List Md},prsF big l=some ML->ML.length=l.length/\(big=true->l=[])/\∀ m ∈ ML,m.im.length<=4/\m.ru.length<=24
 | [],ML,h=>by unfold prsF at h;injection h with h;subst h;exact ⟨rfl,fun _=>rfl,fun m hm=>absurd hm List.not_mem_nil⟩
 | t :: r,ML,h=>by
  unfold prsF at h;split at h
  · cases h
  ·
   rename_i hb
   cases hm:modO t with
   | error e=>simp [hm] at h
   | ok m =>
    simp only [hm] at h
    cases hr:prsF big r with
    | none=>simp [hr] at h
    | some MR =>
     simp [hr] at h;subst h;obtain ⟨h1,h2,h3⟩:=prsF_few hr;refine ⟨by simp [h1],fun hbig=>by simp [hbig] at hb,fun y hy=>?_⟩;rcases List.mem_cons.1 hy with rfl | hy
     · exact modO_len hm
     · exact h3 y hy
theorem prsO_few {l:List ByteArray} {ML:List Md} (h:prsO l=some ML):Few ML/\ML.length<=5:=by
 obtain ⟨h1,h2,h3⟩:=prsF_few h;have h5:ML.length<=5:=by
  by_cases hb:5 < l.length
  · have:=h2 (aT hb);rw [this] at hb;simp at hb
  · omega
 exact ⟨⟨by omega,fun m hm=>by have:=h3 m hm;omega⟩,h5⟩
def miniL:List ByteArray:=[⟨#[109,111,100,117,108,101,32,109,59,10,105,109,112,111,114,116,32,110,59,10,119,97,116,101,114,32,61,32,34,35,34,32,40,33,34,35,34,32,46,41,42,32,34,35,34,59,10,109,97,105,110,32,61,32,40,126,99,97,108,108,126,41,42,59,10,99,97,108,108,32,61,32,110,97,109,101,58,110,58,58,105,100,32,34,40,34,32,40,33,34,41,34,32,46,41,42,32,34,41,34,59,10]⟩,⟨#[109,111,100,117,108,101,32,110,59,10,105,100,32,61,32,91,97,45,122,93,43,59,10]⟩]
def miniM:List Md:=(prsO miniL).getD []
theorem nmeO_word {L:List Tok} {no:List ByteArray} {k:Nat} {x:ByteArray} {k1:Nat} (h:nmeO L no k=.ok (x,k1)):wordB x=true:=by
 unfold nmeO at h;split at h
 ·
  rename_i hc;split at h
  · cases h
  · injection h with h;injection h with h1 h2;subst h1;rw [Bool.and_eq_true] at hc;exact hc.2
 · cases h
theorem rulL_word {L:List Tok}:∀ (f:Nat) (R:List (ByteArray × Ex)) (k:Nat) (R':List (ByteArray × Ex)),(∀ r ∈ R,wordB r.1=true)->rulL L f R k=.ok R'->∀ r ∈ R',wordB r.1=true
 | 0,R,k,R',h,e=>by unfold rulL at e;injection e with e;subst e;exact h
 | f + 1,R,k,R',h,e=>by
  unfold rulL at e;split at e
  · injection e with e;subst e;exact h
  ·
   cases hq:nmeO L (R.map (·.1)) k with
   | error x=>simp [hq] at e
   | ok p =>
    obtain ⟨x,k1⟩:=p;simp only [hq] at e;split at e
    · cases e
    ·
     cases hb:bodO L k1 with
     | error x=>simp [hb] at e
     | ok p =>
      obtain ⟨y,k2⟩:=p;simp only [hb] at e;refine rulL_word f _ k2 R' (fun r hr=>?_) e;rcases List.mem_append.1 hr with hr | hr
      · exact h r hr
      · rw [List.mem_singleton] at hr;subst hr;exact nmeO_word hq
def ruleAt (l:List Md) (k:Int) (s:ByteArray):Int:=match l[k.toNat]? with
 | none=>-1
 | some m=>ruleN m s
theorem ruleAt_eq {l:List Md} {k:Int} {m:Md} (s:ByteArray) (h:l[k.toNat]?=some m):ruleAt l k s=ruleN m s:=by unfold ruleAt;rw [h]
def Okx (x:Ex):Prop:=TxA 100000 x/\fit 90001 53 x=true
theorem Okx.zero:Okx ex0:=⟨TxA.leaf (Nat.zero_le _),fit_leaf (n:=52)⟩
theorem tkO_fits {s:ByteArray} {p m:Nat} {t:Tok} (h:tkO s p=some (t,m)):fits t.st:=by
 unfold tkO at h;split at h
 ·
  split at h
  · injection h with h;injection h with h3 h4;subst h3;exact fits0
  · cases h
 split at h
 ·
  cases hq:txtO s (p:Int) with
  | none=>rw [hq] at h;cases h
  | some q =>
   obtain ⟨u,n⟩:=q;rw [hq] at h;injection h with h;injection h with h3 h4;subst h3;exact fits0
 split at h
 ·
  cases hq:clsO s (p:Int) with
  | none=>rw [hq] at h;cases h
  | some q =>
   obtain ⟨u,n⟩:=q;rw [hq] at h;injection h with h;injection h with h3 h4;subst h3;exact (clsO_res hq).2.2.2.1
 split at h
 · cases h
 · injection h with h;injection h with h3 h4;subst h3;exact fits0
theorem allF_fits {s:ByteArray}:∀ (f k:Nat) (L:List Tok),allF s f k=.ok L->∀ t ∈ L,fits t.st
 | 0,k,L,h=>by cases h
 | f + 1,k,L,h=>by
  have one:∀ t m,nextO s k=some (t,m)->fits t.st:=fun t m hq=>by
   unfold nextO at hq;split at hq
   · injection hq with hq;injection hq with h3 h4;subst h3;exact fits0
   · exact tkO_fits hq
  unfold allF at h;split at h
  · cases h
  ·
   rename_i t m hq;split at h
   · injection h with h;intro u hu;rw [<- h,List.mem_singleton] at hu;subst hu;exact one u m hq
   ·
    cases hq2:allF s f m with
    | error e=>simp [hq2] at h
    | ok M =>
     simp only [hq2] at h;injection h with h;intro u hu;rw [<- h,List.mem_cons] at hu;rcases hu with rfl | hu
     · exact one u m hq
     · exact allF_fits f m M hq2 u hu
structure Wel (m:Md):Prop where
 nm:wordB m.nm=true
 im:∀ x ∈ m.im,wordB x=true
 ru:∀ r ∈ m.ru,wordB r.1=true
 wa:Okx m.wa
 bo:∀ r ∈ m.ru,Okx r.2
 dry:m.wet=false->m.wa=ex0
theorem bodO_okx {L:List Tok} (hL:∀ t ∈ L,Tk 100000 t) (hn:L.length<=90000) {k k2:Nat} {x:Ex} (h:bodO L k=.ok (x,k2)):Okx x:=by
 unfold bodO at h
 cases h1:sgnO L [61] k with
 | error e=>simp [h1] at h
 | ok k1 =>
  simp only [h1] at h
  cases h2:rdO L k1 with
  | error e=>simp [h2] at h
  | ok p =>
   obtain ⟨y,m⟩:=p;simp only [h2] at h
   cases h3:sgnO L [59] m with
   | error e=>simp [h3] at h
   | ok m' =>
    simp only [h3] at h;obtain ⟨rfl,rfl⟩:y=x/\m'=k2:=(by simpa using h);exact rdO_tx (by omega) hL hn k1 _ _ h2
theorem impL_word {L:List Tok} {nm:ByteArray}:∀ (f:Nat) (im:List ByteArray) (k:Nat) (im':List ByteArray) (k':Nat),(∀ x ∈ im,wordB x=true)->impL L nm f im k=.ok (im',k')->∀ x ∈ im',wordB x=true
 | 0,im,k,im',k',h,e=>by unfold impL at e;injection e with e;injection e with e1 e2;subst e1;exact h
 | f + 1,im,k,im',k',h,e=>by
  unfold impL at e;split at e
  ·
   split at e
   · cases e
   ·
    cases hq:nmeO L (nm :: im) (k + 1) with
    | error x=>simp [hq] at e
    | ok p =>
     obtain ⟨x,k1⟩:=p;simp only [hq] at e
     cases hs:sgnO L [59] k1 with
     | error x=>simp [hs] at e
     | ok k2 =>
      simp only [hs] at e;refine impL_word f _ k2 im' k' (fun y hy=>?_) e;rw [List.mem_append,List.mem_singleton] at hy;rcases hy with hy | rfl
      · exact h y hy
      · exact nmeO_word hq
  · injection e with e;injection e with e1 e2;subst e1;exact h
theorem rulL_okx {L:List Tok} (hL:∀ t ∈ L,Tk 100000 t) (hn:L.length<=90000):∀ (f:Nat) (R:List (ByteArray × Ex)) (k:Nat) (R':List (ByteArray × Ex)),(∀ r ∈ R,Okx r.2)->rulL L f R k=.ok R'->∀ r ∈ R',Okx r.2
 | 0,R,k,R',h,e=>by unfold rulL at e;injection e with e;subst e;exact h
 | f + 1,R,k,R',h,e=>by
  unfold rulL at e;split at e
  · injection e with e;subst e;exact h
  ·
   cases hq:nmeO L (R.map (·.1)) k with
   | error x=>simp [hq] at e
   | ok p =>
    obtain ⟨x,k1⟩:=p;simp only [hq] at e;split at e
    · cases e
    ·
     cases hb:bodO L k1 with
     | error x=>simp [hb] at e
     | ok p =>
      obtain ⟨y,k2⟩:=p;simp only [hb] at e;refine rulL_okx hL hn f _ k2 R' (fun r hr=>?_) e;rcases List.mem_append.1 hr with hr | hr
      · exact h r hr
      · rw [List.mem_singleton] at hr;subst hr;exact bodO_okx hL hn hb
theorem hedO_wel {L:List Tok} (hL:∀ t ∈ L,Tk 100000 t) (hn:L.length<=90000) {m:Md} {k:Nat} (h:hedO L=.ok (m,k)):Wel m:=by
 rw [hedO_q] at h;split at h
 ·
  unfold thenQ at h;split at h
  · cases h
  ·
   rename_i x k1 hx;have hw:=nmeO_word hx;split at h
   · cases h
   ·
    rename_i k2 _;have h:hdT L x (impL L x (L.length + 1) [] k2)=.ok (m,k):=h
    cases hi:impL L x (L.length + 1) [] k2 with
    | error e=>rw [hi] at h;cases h
    | ok p =>
     obtain ⟨im,k3⟩:=p;rw [hi] at h;have hl:=impL_word _ _ _ _ _ (fun x hx=>absurd hx List.not_mem_nil) hi;have h:watO L x im k3=.ok (m,k):=h;rw [watO_q] at h;split at h
     ·
      cases hb:bodO L (k3 + 1) with
      | error e=>rw [hb] at h;cases h
      | ok p =>
       obtain ⟨y,k4⟩:=p;rw [hb] at h;injection h with h;injection h with h1 h2;subst h1;exact ⟨hw,hl,fun r hr=>absurd hr List.not_mem_nil,bodO_okx hL hn hb,fun r hr=>absurd hr List.not_mem_nil,fun h=>by cases h⟩
     · injection h with h;injection h with h1 h2;subst h1;exact ⟨hw,hl,fun r hr=>absurd hr List.not_mem_nil,Okx.zero,fun r hr=>absurd hr List.not_mem_nil,fun _=>rfl⟩
 · cases h
theorem modO_wel {s:ByteArray} (hs:s.size<=1000) {m:Md} (h:modO s=.ok m):Wel m:=by
 have h0:=h;unfold modO at h;split at h
 · cases h
 ·
  rename_i L hL0;have hL:∀ t ∈ L,Tk 100000 t:=fun t ht=>⟨by have:=allF_text _ _ _ (Nat.zero_le _) hL0 t ht;omega,allF_fits _ _ _ hL0 t ht⟩;have hn:L.length<=90000:=by have:=allF_len _ _ _ hL0;omega
  rw [modL_q] at h
  cases hh:hedO L with
  | error e=>rw [hh] at h;cases h
  | ok p =>
   obtain ⟨m0,k⟩:=p;rw [hh] at h;have h:mdT m0 (rulL L (L.length + 1) [] k)=.ok m:=h
   cases hr:rulL L (L.length + 1) [] k with
   | error e=>rw [hr] at h;cases h
   | ok R =>
    rw [hr] at h;injection h with h;subst h;have h1:=hedO_wel hL hn hh;exact ⟨h1.nm,h1.im,rulL_word _ _ _ _ (fun r hr=>absurd hr List.not_mem_nil) hr,h1.wa,rulL_okx hL hn _ _ _ _ (fun r hr=>absurd hr List.not_mem_nil) hr,h1.dry⟩
theorem prsF_wel {big:Bool}:∀ {l:List ByteArray} {ML:List Md},prsF big l=some ML->∀ m ∈ ML,Wel m
 | [],ML,h=>by unfold prsF at h;injection h with h;subst h;exact fun m hm=>absurd hm List.not_mem_nil
 | t :: r,ML,h=>by
  unfold prsF at h;split at h
  · cases h
  ·
   rename_i hb;have hs:t.size<=1000:=by simp only [Bool.or_eq_true,decide_eq_true_eq,not_or] at hb;omega
   cases hm:modO t with
   | error e=>simp [hm] at h
   | ok m =>
    simp only [hm] at h
    cases hr:prsF big r with
    | none=>simp [hr] at h
    | some MR =>
     simp [hr] at h;subst h;intro y hy;rcases List.mem_cons.1 hy with rfl | hy
     · exact modO_wel hs hm
     · exact prsF_wel hr y hy
theorem prsO_wel {l:List ByteArray} {ML:List Md} (h:prsO l=some ML):∀ m ∈ ML,Wel m:=prsF_wel h
end Go.Proofs.Ythddifjhoniacaa
