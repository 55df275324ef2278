import Derived.Test.YthkdnehgamefiaaGreatWx
import Derived.Test.YthkdnehgamefiaaGreatQuoteKR
namespace Go.Proofs.YthkdnehgamefiaaGreat
set_option linter.unusedVariables false
set_option maxRecDepth 1000000
open Go.RowKit Go.Sort
def Prints (n:Nat):Prop:=∀ (y:Ex) (ko:Option Addr) (kc:Nat) (W:World),Ov n y->aV W n ko y.kids →
 Calls Tryz.prog 44 #[exv y ko kc] W fun e w'=>e=.returned (.string (ofL (prX n y)))/\Below W.heap.size W w'
def Cm (L:List (List UInt8)) (m k:Nat):List Value:=(L.take k).map (fun l=>.string (ofL l)) ++ List.replicate (m - k) (.string ⟨#[]⟩)
theorem TR {L:List (List UInt8)} {m k:Nat} {y:List UInt8} (hm:L.length=m) (h:L[k]?=some y):(Cm L m k).set k (.string (ofL y))=Cm L m (k + 1):=by
 have hk:k < L.length:=(aS.1 h).1;unfold Cm;rw [List.take_add_one,h];have e:((L.take k).map fun l=>Value.string (ofL l)).length=k:=by simp;omega
 rw [List.set_append_right _ _ (by omega),e,Nat.sub_self,show m - k=(m - (k + 1)) + 1 by omega,List.replicate_succ,List.set_cons_zero];simp
theorem A8i {L:List (List UInt8)} {m k:Nat} {y:List UInt8} (hm:L.length=m) (h:L[k]?=some y) (a:Value):((Cm L m k).set k a).set k (.string (ofL y))=Cm L m (k + 1):=by rw [List.set_set];exact TR hm h
theorem B3X {L:List (List UInt8)} {m k:Nat} {a:Value} (hm:L.length=m) (h:k < m):((Cm L m k).set k a)[k]?=some a:=by
 have:k < (Cm L m k).length:=by unfold Cm;simp;omega
 rw [List.getElem?_set_self this]
theorem A8h {L:List (List UInt8)} {m:Nat} (hm:L.length=m) {j:Nat} {y:List UInt8} (h:L[j]?=some y):(Cm L m m)[j]?=some (.string (ofL y)):=by unfold Cm;have hj:j < L.length:=(aS.1 h).1;rw [List.take_of_length_le (by omega),List.getElem?_append_left (by simpa using hj),List.getElem?_map,h];rfl
theorem vJ (s:List UInt8):(ofL s).data.toList=s:=by show (s.toArray).toList=s;simp
theorem VS:∀ (L:List (List UInt8)),(L.map ofL).map (·.data.toList)=L
 | []=>rfl
 | a :: L=>by rw [List.map_cons,List.map_cons,VS L];show (ofL a).data.toList :: L=_;rw [vJ]
theorem A4o (L:List (List UInt8)) (m:Nat):Cm L m 0=List.replicate m (.string ⟨#[]⟩):=by simp [Cm]
theorem info_strw:(Tryz.prog.info? 9).map (fun i=>(i.zero,i.size,i.bytes))=some (some (.string ⟨#[]⟩),1,16):=by kernel_rfl
theorem A0P {t:TypeId} {z:Value} {size bytes:Nat} (h:(Tryz.prog.info? t).map (fun i=>(i.zero,i.size,i.bytes))=some (some z,size,bytes)):∃ i,Tryz.prog.info? t=some i/\i.zero=some z/\i.size=size/\i.bytes=bytes:=by
 cases hi:Tryz.prog.info? t with
 | none=>rw [hi] at h;cases h
 | some i =>
  rw [hi] at h;simp at h;exact ⟨i,rfl,h.1,h.2.1,h.2.2⟩
theorem B3B (n:Nat) (hn:(n:Int)<=1000) (w:World):(Instr.makeSlice 22 (.int .i64 (n:Int)) (.int .i64 (n:Int))).run Tryz.prog w=.ok (.slice (some ⟨w.heap.size,0,none⟩) n n) (w.alloc (.cells (Array.replicate n (Value.string ⟨#[]⟩)) 9)):=by obtain ⟨j0,hj,hy0,hy1,hy2⟩:=A0P info_strw;have h:=run_make (P:=Tryz.prog) w 22 9 j0 (.string ⟨#[]⟩) Tryz.underlying22 hj hy0 .i64 .i64 n n (by omega) (Int.le_refl _) (by rw [hy2];omega) (by omega);rw [h,hy1,Int.toNat_natCast,Nat.mul_one,<- List.toArray_replicate,<- toList_madeCells_one];rfl
set_option maxRecDepth 100000 in
set_option maxHeartbeats 1600000 in
theorem vE (n:Nat) (IHP:Prints n) (x:Ex) (ko:Option Addr) (kc:Nat) (sp:ByteArray) (hsp:sp=ofL (mP x.op)) (w:World) (hx:Ov (n + 1) x) (hK:aV w (n + 1) ko x.kids) :
  Calls Tryz.prog 77 #[exv x ko kc,.string sp] w fun e w'=>e=.returned (.string (ofL (pW (prX n) x)))/\Below w.heap.size w w':=by
 have IH:=aH IHP;have HK:=aH hK;have HX:=aH hx;have hl:=(Ws hx.small).1;obtain ⟨m,hm⟩:∃ m,x.kids.length=m:=⟨_,rfl⟩;have HM:=aH hm;obtain ⟨L,hL⟩:∃ L,x.kids.map (kdX (prX n) x.op)=L:=⟨_,rfl⟩;have HL:=aH hL;have HLM:=aH (show L.length=m by rw [<- hL,List.length_map,hm]);have HRES:=aH (show pW (prX n) x=Lib.join L (mP x.op) by rw [<- hL];rfl)
 have HLEN:=aH (show (Lib.join L (mP x.op)).length<=70368744177664 by
  rw [<- HRES.o]
  exact hx.room.1)
 have HSP:=aH hsp;obtain ⟨ox,hox⟩:∃ o,x.op=o:=⟨_,rfl⟩;have HB0:=aH (dN w (.cells #[.int .i64 ox,.string x.text,.int .u64 x.s0,.int .u64 x.s1,.int .u64 x.s2,.int .u64 x.s3,.slice ko m kc] 32));have HO:=aH (Own.fresh w 32 [.int .i64 ox,.string x.text,.int .u64 x.s0,.int .u64 x.s1,.int .u64 x.s2,.int .u64 x.s3,.slice ko m kc]);have HC:=aH (A5K ox);obtain ⟨cx,hcx⟩:∃ c,fQ ox=c:=⟨_,rfl⟩;rw [hcx] at HC;have HCX:=aH hcx;unfold exv;rw [hm] at hl ⊢;rw [hox] at HL HRES HLEN HSP ⊢;clear hm hK hx hL hsp hcx IHP hox;have hmk:=B3B m (by omega);go_enter Tryz.func77,Tryz.ntmps77;go_wp2_with fail;have hR0:=aH (show Own ((w.alloc (.cells #[.int .i64 ox,.string x.text,.int .u64 x.s0,.int .u64 x.s1,.int .u64 x.s2,.int .u64 x.s3,.slice ko m kc] 32)).alloc (.cells (Array.replicate m (Value.string ⟨#[]⟩)) 9)) (w.heap.size + 1) 9 (Cm L m 0) by rw [A4o,<- List.toArray_replicate];exact Own.fresh' (by simp) 9 _);have HB1:=aH (show Below w.heap.size w ((w.alloc (.cells #[.int .i64 ox,.string x.text,.int .u64 x.s0,.int .u64 x.s1,.int .u64 x.s2,.int .u64 x.s3,.slice ko m kc] 32)).alloc (.cells (Array.replicate m (Value.string ⟨#[]⟩)) 9)) from HB0.o.alloc HB0.o.size _);have HO1:=aH (HO.o.on_alloc (.cells (Array.replicate m (Value.string ⟨#[]⟩)) 9));generalize World.alloc (w.alloc _) _=W0 at *;clear HB0 HO hmk
 go_loopw [15] (fun b15 wr=>∃ k:Nat,b15=.int .i64 (k:Int)/\(k:Int)<=m/\aQ (Own wr (w.heap.size + 1) 9 (Cm L m k))/\aQ (Below w.heap.size w wr)/\aQ (Own wr w.heap.size 32 [.int .i64 ox,.string x.text,.int .u64 x.s0,.int .u64 x.s1,.int .u64 x.s2,.int .u64 x.s3,.slice ko m kc]))
  (fun b15 _=>m - (intOf b15).toNat)
 case atStart=>exact ⟨0,rfl,by omega,hR0,HB1,HO1⟩
 case round =>
  obtain ⟨k,rfl,hk2,HR,HB,HOX⟩:=hrel;clear hR0 HB1 HO1;by_cases h2:(k:Int) < m
  ·
   obtain ⟨y,hy⟩:∃ y,x.kids[k]?=some y:=⟨_,aG (by have:=HM.o;omega)⟩;obtain ⟨g,off,kk,kd,rfl,hg,c0,c1,c2,c3,c4,c5,c6,hr⟩:=HK.o k y hy;have HRY:=aH hr;have HPY:=aH (HX.o.kid hy);have HLY:=aH (show L[k]?=some (Ph (decide (fQ y.op<=cx)) (prX n y)) by rw [<- HL.o,List.getElem?_map,hy,<- HCX.o];rfl);have HPL:=aH (show (prX n y).length<=70368744177664 from (HX.o.room.2 k y hy).1);have HCY:=aH (A5K y.op);have e0:=aC c0 HB.o;have e1:=aC c1 HB.o;have e2:=aC c2 HB.o;have e3:=aC c3 HB.o;have e4:=aC c4 HB.o;have e5:=aC c5 HB.o;have e6:=aC c6 HB.o;have hgr:g < wr.heap.size:=aL hg HB.o.size;clear c0 c1 c2 c3 c4 c5 c6 hg hr hy;obtain ⟨cy,hcy⟩:∃ c,fQ y.op=c:=⟨_,rfl⟩;rw [hcy] at HLY HCY;clear hcy;obtain ⟨q,hq⟩:∃ q,prX n y=q:=⟨_,rfl⟩;have HPR:=aH (show ∀ W:World,aV W n kk y.kids->Calls Tryz.prog 44 #[exv y kk kd] W fun e w'=>e=.returned (.string (ofL q))/\Below W.heap.size W w' from fun W h=>by rw [<- hq];exact IH.o y kk kd W HPY.o h);rw [hq] at HLY HPL;clear hq;unfold exv at HPR;have HOY:=aH (Own.fresh wr 32 [.int .i64 y.op,.string y.text,.int .u64 y.s0,.int .u64 y.s1,.int .u64 y.s2,.int .u64 y.s3,.slice kk y.kids.length kd]);have HB2:=aH (HB.o.alloc HB.o.size (.cells #[.int .i64 y.op,.string y.text,.int .u64 y.s0,.int .u64 y.s1,.int .u64 y.s2,.int .u64 y.s3,.slice kk y.kids.length kd] 32));have HR2:=aH (HR.o.on_alloc (.cells #[.int .i64 y.op,.string y.text,.int .u64 y.s0,.int .u64 y.s1,.int .u64 y.s2,.int .u64 y.s3,.slice kk y.kids.length kd] 32));have HO2:=aH (HOX.o.on_alloc (.cells #[.int .i64 y.op,.string y.text,.int .u64 y.s0,.int .u64 y.s1,.int .u64 y.s2,.int .u64 y.s3,.slice kk y.kids.length kd] 32));have HG:=aH (show w.heap.size + 1 < wr.heap.size from HR.o.lt);clear HR HOX;go_wp2_with fail;refine (HPR.o _ (aV.below HB2.o HRY.o)).mono ?_;rintro e w3 ⟨rfl,hb3⟩;have HR3:=aH (HR2.o.under hb3 HR2.o.lt);have HO3:=aH (HO2.o.under hb3 HO2.o.lt);have HY3:=aH (HOY.o.under hb3 HOY.o.lt);have HB3:=aH (aD HB2.o hb3);clear hb3 HR2 HO2 HOY HB2 e0 e1 e2 e3 e4 e5 e6;obtain ⟨G,hG⟩:∃ G,wr.heap.size=G:=⟨_,rfl⟩;rw [hG] at HY3 HG ⊢;clear hG hgr;have hb:=HR3.o.lt;have hfz:w3.frozen? ⟨w.heap.size + 1,k,none⟩=false:=HR3.o.thaw k;have hcl:w3.cell? ⟨w.heap.size + 1,k,none⟩=some (.string ⟨#[]⟩):=(by rw [HR3.o.cell k];unfold Cm;have e:((L.take k).map fun l=>Value.string (ofL l)).length=k:=(by have:=HLM.o;simp;omega);rw [List.getElem?_append_right (by omega),e,Nat.sub_self,show m - k=(m - (k + 1)) + 1 by omega,List.replicate_succ];rfl);have HR4:=aH (HR3.o.put k (.string (ofL q)));have HO4:=aH (HO3.o.off (p:=⟨w.heap.size + 1,k,none⟩) (by simp) (.string (ofL q)));have HY4:=aH (HY3.o.off (p:=⟨w.heap.size + 1,k,none⟩) (by have:=HG.o;simp;omega) (.string (ofL q)));have HB4:=aH (HB3.o.setCell (p:=⟨w.heap.size + 1,k,none⟩) (by simp) (.string (ofL q)));go_wp2_with fail;generalize hW4:World.setCell w3 _ _=W4 at *;clear HR3 HO3 HY3 HB3 hfz hcl hb hW4;have y0:=HY4.o.cell 0;have x0:=HO4.o.cell 0;simp only [List.getElem?_cons_zero] at y0 x0;have hb4:=HR4.o.lt;generalize y.op=oy at *;have hw1:IntKind.i64.wrap ((k:Int) + 1)=(k:Int) + 1:=wI;by_cases hle:cy<=cx
   ·
    have hd:decide (cy<=cx)=true:=aT hle;rw [hd] at HLY
    go_quiet (first
     | (go_at_call 104;with_reducible exact Calls.quiet_of_same (HCY.o _))
     | (go_at_call 104;with_reducible exact Calls.quiet_of_same (HC.o _)))
    have HQS:=aH (show (⟨#[40]⟩:ByteArray) ++ ofL q ++ (⟨#[41]⟩:ByteArray)=ofL (Ph true q) by
     show ofL [40] ++ ofL q ++ _=_
     rw [lZ,vJ,lZ];rfl)
    have HS9:=aH (A8i HLM.o HLY.o (.string (ofL q)));have hcl:W4.cell? ⟨w.heap.size + 1,k,none⟩=some (.string (ofL q)):=(by rw [HR4.o.cell,B3X HLM.o (by omega)]);have hfz:W4.frozen? ⟨w.heap.size + 1,k,none⟩=false:=HR4.o.thaw k;have hqs:(ofL q).size<=70368744177664:=(by rw [pG];exact HPL.o);generalize ofL q=Q at *;have HR5:=aH ((HR4.o.on_drewN nq).put k (.string (⟨#[40]⟩ ++ Q ++ ⟨#[41]⟩)));have HB5:=aH ((below_drewN HB4.o nq).setCell (p:=⟨w.heap.size + 1,k,none⟩) (by simp) (.string (⟨#[40]⟩ ++ Q ++ ⟨#[41]⟩)));have HO5:=aH ((HO4.o.on_drewN nq).off (p:=⟨w.heap.size + 1,k,none⟩) (by simp) (.string (⟨#[40]⟩ ++ Q ++ ⟨#[41]⟩)));go_wp2
    go_roundw
    case rel=>exact ⟨k + 1,by go_num,by omega,aH (by rw [<- HS9.o,<- HQS.o];exact HR5.o),HB5,HO5⟩
    case measure=>simp [intOf];omega
   ·
    have hd:decide (cy<=cx)=false:=aF hle;rw [hd] at HLY
    go_quiet (first
     | (go_at_call 104;with_reducible exact Calls.quiet_of_same (HCY.o _))
     | (go_at_call 104;with_reducible exact Calls.quiet_of_same (HC.o _)))
    go_wp2
    go_roundw
    case rel=>exact ⟨k + 1,by go_num,by omega,aH (by rw [<- TR HLM.o HLY.o];exact HR4.o.on_drewN _),aH (below_drewN HB4.o _),aH (HO4.o.on_drewN _)⟩
    case measure=>simp [intOf];omega
  ·
   obtain rfl:k=m:=(by omega);have hb:=HR.o.lt;by_cases hz:k=0
   · subst hz;have HE:=aH (show (⟨#[]⟩:ByteArray)=ofL (pW (prX n) x) by rw [HRES.o,List.length_eq_zero_iff.1 HLM.o];rfl);go_wp2_with fail;refine (Tryz.strings_Join_none _ _ _ _).mono ?_;rintro e w2 ⟨rfl,rfl⟩;go_wp2;go_ret;exact ⟨bL HE.o,HB.o⟩
   ·
    have HE:=aH (show (⟨(Lib.join L (mP ox)).toArray⟩:ByteArray)=ofL (pW (prX n) x) by rw [HRES.o];rfl)
    have CJ:=Tryz.strings_Join (w.heap.size + 1) 0 k (L.map ofL) sp wr (fun j a ha=>by
      rw [HR.o.cell,Nat.zero_add];rw [List.getElem?_map] at ha;obtain ⟨l,hl1,hl2⟩:=Option.map_eq_some_iff.1 ha
      rw [A8h HLM.o hl1,hl2]) hb (by rw [List.length_map,HLM.o];omega) (by rw [List.length_map,HLM.o];omega) (by rw [VS,HSP.o,vJ];have:=HLEN.o;omega)
    rw [List.length_map,HLM.o,VS,HSP.o,vJ] at CJ;have HCJ:=aH CJ;have HSP2:=HSP.o;subst HSP2;clear CJ;go_wp2_with fail;refine HCJ.o.mono ?_;rintro e w2 ⟨rfl,hb2⟩;have HB2:=aH (aD HB.o hb2);clear hb2;go_wp2;go_ret;exact ⟨bL HE.o,HB2.o⟩
end Go.Proofs.YthkdnehgamefiaaGreat
