import Derived.Test.YthkdnehgamefiaaGreatHh
namespace Go.Proofs.YthkdnehgamefiaaGreat
set_option linter.unusedVariables false
set_option maxHeartbeats 3200000
set_option maxRecDepth 100000
set_option maxRecDepth 1000000
open Go.RowKit
theorem A2a {s:ByteArray}:∀ f k out,40 < out.size->txtF s f k out=none
 | 0,_,_=>fun _=>rfl
 | f + 1,k,out=>fun h=>by
  rw [txtF.eq_2];split
  ·
   split
   · rw [if_pos (.inr h)]
   ·
    split
    · rfl
    · exact A2a f _ _ (by rw [ByteArray.size_append];omega)
  · rfl
theorem fP {s:ByteArray} {k:Nat} {c:Int}:bG s (k:Int) c=true ↔ k < s.size/\byt s k=c:=by
 by_cases h:k < s.size
 · rw [gG h,beq_iff_eq];exact ⟨fun g=>⟨h,g⟩,fun g=>g.2⟩
 · rw [jR h];exact ⟨fun g=>(by cases g),fun g=>absurd g.1 h⟩
theorem B3f {s:ByteArray} {f k:Nat} {out:ByteArray} (hc:bG s (k:Int) 34=false) (h:readO s k spT=none):txtF s f k out=none:=by
 by_cases hk:k < s.size
 · exact A6h (fun g=>by rw [fP.2 ⟨hk,g⟩] at hc;cases hc) h
 · exact tO hk
theorem A8A {w:World} {B n:Nat} {e:TypeId} {v:Value} {xs:List Value} (h:w.ownsRow B e 1 v n xs):∃ ao cap,v=.slice ao n cap:=by rcases h.2 with ⟨rfl,rfl⟩ | ⟨g,cap,cur,rfl,_⟩ <;> exact ⟨_,_,rfl⟩
theorem B2B {w:World} {B cap:Nat} {ao:Option Addr} {l:List UInt8} (h:w.ownsRow B 5 1 (.slice ao l.length cap) l.length (Lib.byteCells l)) (hl:0 < l.length) :
  (convert 36 9 (.slice ao l.length cap)).run Tryz.prog w=.ok (.string (ofL l)) w:=by
 rcases h.2 with ⟨-,h0⟩ | ⟨g,cap',cur,hv,hb,hg,h1,h2,h3,h4⟩
 · omega
 ·
  injection hv with e1 e2 e3;subst e1;refine run_convert_bytes_back w 36 9 5 ⟨g,0,none⟩ cap l Tryz.underlying36 Tryz.underlying5 Tryz.underlying9 (fun j hj=>?_);rw [Addr.add_lit,Nat.zero_add,cell_of_row w g j cur 5 (0,0) hg];have h5:(cur.toList.take (l.length * 1))[j]?=(Lib.byteCells l)[j]?:=by rw [h4]
  rw [List.getElem?_take_of_lt (by omega)] at h5;rw [<- Array.getElem?_toList,h5];simp [Lib.byteCells,aG hj]
theorem kY (s:ByteArray) (hs:s.size<=1000000) (i:Int) (w:World) :
  Calls Tryz.prog 123 #[.string s,.int .i64 i] w fun e w'=>e=.returned (Zm (txtO s i))/\Below w.heap.size w w':=by
 have HF:=aH (show txtO s i=if bG s i 34=true then txtF s (s.size + 1) (i.toNat + 1) ⟨#[]⟩ else none from rfl);obtain ⟨o,ho⟩:∃ o,txtO s i=o:=⟨_,rfl⟩;rw [ho] at HF ⊢;clear ho;have HS:=aH (fun W=>oQ s i 34 W);obtain ⟨b0,hb0⟩:∃ b0,bG s i 34=b0:=⟨_,rfl⟩;rw [hb0] at HS HF
 cases b0
 ·
  have HE:=aH (show o=none by rw [HF.o];rfl);clear HF hb0;go_enter Tryz.func123,Tryz.ntmps123;go_wp2_with fail;refine (HS.o _).mono ?_;rintro e w1 ⟨rfl,rfl⟩;go_wp2
  go_ret3
  exact ⟨Jh HE.o,Below.refl _ _⟩
 ·
  have hi0:0<=i/\i < s.size:=by unfold bG at hb0;simp at hb0;exact hb0.1
  obtain ⟨a,rfl⟩:∃ a:Nat,i=(a:Int):=⟨i.toNat,by omega⟩;rw [Int.toNat_natCast] at HF;obtain ⟨-,ha⟩:=hi0;have HT0:=aH (show txtF s (s.size + 1) (a + 1) (ofL [])=o by rw [HF.o];rfl);have HB0:=aH (Below.refl w.heap.size w);have HO0:=aH (show w.ownsRow w.heap.size 5 1 (.slice none 0 0) 0 (Lib.byteCells []) from ⟨rfl,.inl ⟨rfl,rfl⟩⟩);obtain ⟨i0,hi,hz0,hz1,hz2⟩:=info_parts Xt;have IL:=aH (And.intro hi (And.intro hz0 (And.intro hz1 hz2)));clear HF hb0 hi hz0 hz1 hz2;go_enter Tryz.func123,Tryz.ntmps123;go_wp2_with fail;refine (HS.o _).mono ?_;rintro e w1 ⟨rfl,rfl⟩;go_wp2_with fail
  go_loopw [1,7] (fun b1 b7 wr=>∃ (k f:Nat) (l:List UInt8) (ao:Option Addr) (cap:Nat),b1=.int .i64 (k:Int)/\b7=.slice ao l.length cap/\(k:Int)<=s.size + 20/\l.length<=40/\aQ (txtF s f k (ofL l)=o/\s.size < f + k) ∧
   aQ (wr.ownsRow w1.heap.size 5 1 (.slice ao l.length cap) l.length (Lib.byteCells l))/\aQ (Below w1.heap.size w1 wr)) (fun b1 _ _=>s.size + 20 - (intOf b1).toNat)
  case atStart=>exact ⟨a + 1,s.size + 1,[],none,0,by go_num,rfl,by omega,Nat.zero_le _,aH ⟨HT0.o,by omega⟩,HO0,HB0⟩
  case round =>
   obtain ⟨k,f,l,ao,cap,rfl,rfl,hk,hl,HT,HO,HB⟩:=hrel;clear HT0 HB0 HO0 HS;have HS:=aH (fun W=>oQ s (k:Int) 34 W);obtain ⟨b0,hb0⟩:∃ b0,bG s (k:Int) 34=b0:=⟨_,rfl⟩;rw [hb0] at HS
   cases b0
   ·
    have HR:=aH (fun W=>A1d s hs k (by omega) spT W);obtain ⟨q,hq⟩:∃ q,readO s k spT=q:=⟨_,rfl⟩;rw [hq] at HR
    cases q with
    | none =>
     have HE:=aH (show o=none by rw [<- HT.o.1,B3f hb0 hq]);clear HT hb0 hq;go_wp2_with fail;refine (HS.o _).mono ?_;rintro e w2 ⟨rfl,rfl⟩;go_wp2_with fail;refine (HR.o _).mono ?_;rintro e w3 ⟨he,hb3⟩;obtain ⟨t,n,rfl⟩:=Lu he;have HB3:=aH (aD HB.o hb3);clear hb3 HB he;go_wp2
     go_ret3
     exact ⟨Jh HE.o,HB3.o⟩
    | some p =>
     obtain ⟨u,m⟩:=p;obtain ⟨q1,q2,q3,q4⟩:=tK hq;have hstep:=XP (out:=ofL l) HT.o.2 (fun g=>by rw [fP.2 ⟨q1,g⟩] at hb0;cases hb0) hq;rw [HT.o.1] at hstep;have hf:=HT.o.2;have hf2:s.size < (f - 1) + m:=(by omega);clear HT hb0 hq hf;by_cases g:(40:Int) < (l.length:Int) + u.size
     ·
      have HE:=aH (show o=none by rw [hstep];exact A2a _ _ _ (by rw [ByteArray.size_append,pG];omega));clear hstep;go_wp2_with fail;refine (HS.o _).mono ?_;rintro e w2 ⟨rfl,rfl⟩;go_wp2_with fail;refine (HR.o _).mono ?_;rintro e w3 ⟨he,hb3⟩;obtain rfl:=wY he;have HB3:=aH (aD HB.o hb3);clear hb3 HB he;go_wp2
      go_ret3
      exact ⟨Jh HE.o,HB3.o⟩
     ·
      have HT2:=aH (show txtF s (f - 1) m (ofL (l ++ u.data.toList))=o/\s.size < (f - 1) + m from ⟨by rw [hstep,lZ],hf2⟩);have HLN:=aH (show (l ++ u.data.toList).length=l.length + u.size by simp);clear hstep hf2;go_wp2_with fail;refine (HS.o _).mono ?_;rintro e w2 ⟨rfl,rfl⟩;go_wp2_with fail;refine (HR.o _).mono ?_;rintro e w3 ⟨he,hb3⟩;obtain rfl:=wY he;have HO3:=aH (own_below HO.o hb3);have HB3:=aH (aD HB.o hb3);clear hb3 HB HO he;have hsz3:=HB3.o.size
      go_wp2_with (first
       | (at_builtin;refine Lib.wpList_append_own_string _ rfl _ _ 36 9 rfl w1.heap.size 5 i0 Tryz.underlying36 Tryz.underlying9 IL.o.1 IL.o.2.1 IL.o.2.2.1 IL.o.2.2.2 (.slice ao l.length cap) l.length (Lib.byteCells l) rfl HO3.o u rfl (by unfold maxLen;omega) (by omega) (by omega) ?_))
      intro v' w4 hown4 hgrow _;obtain ⟨ao',cap',rfl⟩:=A8A hown4;have HB4:=aH (show Below w1.heap.size w1 w4 from HB3.o.trans ((But.grown (S:=fun g=>w1.heap.size<=g) (But.refl _ w3) hgrow (fun k hk _=>A3u HO3.o k hk)).below (by omega) (fun _ h=>h)));have HO4:=aH (show w4.ownsRow w1.heap.size 5 1 (.slice ao' (l ++ u.data.toList).length cap') (l ++ u.data.toList).length (Lib.byteCells (l ++ u.data.toList)) by rw [HLN.o,byteCells_append];exact hown4);clear hown4 hgrow HO3 HB3;go_wp2
      go_roundw
      case rel=>exact ⟨m,f - 1,l ++ u.data.toList,ao',cap',rfl,by rw [HLN.o],by omega,by rw [HLN.o];omega,HT2,HO4,HB4⟩
      case measure=>simp [intOf];omega
   ·
    obtain ⟨g1,g2⟩:=fP.1 hb0;have HE:=aH (show o=if l.length=0\/40 < l.length then none else some (ofL l,k + 1) by rw [<- HT.o.1,MP HT.o.2 g1 g2,pG]);clear HT hb0 g2;by_cases g:l.length=0
    ·
     have HE2:=aH (show o=none by rw [HE.o,if_pos (.inl g)]);clear HE;go_wp2_with fail;refine (HS.o _).mono ?_;rintro e w2 ⟨rfl,rfl⟩;go_wp2
     go_ret3
     exact ⟨Jh HE2.o,HB.o⟩
    ·
     have HE2:=aH (show o=some (ofL l,k + 1) by rw [HE.o,if_neg (by omega)]);have K:=B2B HO.o (by omega);clear HE;go_wp2_with fail;refine (HS.o _).mono ?_;rintro e w2 ⟨rfl,rfl⟩;go_wp2
     go_ret3
     exact ⟨A9r HE2.o rfl (by omega),HB.o⟩
def sglO (s:ByteArray) (k:Nat):Option (Int × Nat) :=
 match readO s k spC with
 | none=>none
 | some (u,m)=>if u.size=1 then some (byt u 0,m) else none
def Ku:Option (Int × Nat)->Value
 | none=>.tuple #[.int .u8 0,.int .i64 0,.bool false]
 | some (c,m)=>.tuple #[.int .u8 c,.int .i64 (m:Int),.bool true]
theorem rY {s:ByteArray} {k:Nat} (h:readO s k spC=none):sglO s k=none:=by unfold sglO;rw [h]
theorem uR {s:ByteArray} {k m:Nat} {u:ByteArray} (h:readO s k spC=some (u,m)):sglO s k=if u.size=1 then some (byt u 0,m) else none:=by unfold sglO;rw [h]
theorem Dm {s:ByteArray} {k m:Nat} {c:Int} (h:sglO s k=some (c,m)):k < s.size/\k < m/\m<=k + 10/\0<=c/\c<=255:=by
 cases hq:readO s k spC with
 | none=>rw [rY hq] at h;cases h
 | some p =>
  obtain ⟨u,m'⟩:=p;rw [uR hq] at h;split at h
  · injection h with h;injection h with h1 h2;subst h1 h2;have:=tK hq;exact ⟨this.1,this.2.1,this.2.2.1,tX u 0⟩
  · cases h
theorem ME (s:ByteArray) (hs:s.size<=1000000) (k:Nat) (hk:k<=2000000) (w:World) :
  Calls Tryz.prog 160 #[.string s,.int .i64 (k:Int)] w fun e w'=>e=.returned (Ku (sglO s k))/\Below w.heap.size w w':=by
 have HR:=aH (fun W=>A1d s hs k hk spC W)
 cases hq:readO s k spC with
 | none =>
  have HE:=aH (show Ku (sglO s k)=.tuple #[.int .u8 0,.int .i64 0,.bool false] by rw [rY hq];rfl);rw [hq] at HR;clear hq;go_enter Tryz.func160,Tryz.ntmps160;go_wp2_with fail;refine (HR.o _).mono ?_;rintro e w3 ⟨he,hb3⟩;obtain ⟨t,n,rfl⟩:=Lu he;clear he;go_wp2
  go_ret3
  exact ⟨by rw [HE.o];rfl,hb3⟩
 | some p =>
  obtain ⟨u,m⟩:=p;have hm:=(tK hq).2.2.1;have hE:=uR hq;rw [hq] at HR;clear hq;by_cases g:u.size=1
  ·
   obtain ⟨x,hx⟩:∃ x:Int,((u[0]'(by omega)).toNat:Int)=x:=⟨_,rfl⟩;have HE:=aH (show Ku (sglO s k)=.tuple #[.int .u8 x,.int .i64 (m:Int),.bool true] by rw [hE,if_pos g,dI (by omega),hx];rfl);clear hE;go_enter Tryz.func160,Tryz.ntmps160;go_wp2_with fail;refine (HR.o _).mono ?_;rintro e w3 ⟨he,hb3⟩;obtain rfl:=wY he;clear he;have g':(u.size:Int)=1:=(by omega);go_wp2
   go_ret3
   exact ⟨by rw [HE.o];rfl,hb3⟩
  ·
   have HE:=aH (show Ku (sglO s k)=.tuple #[.int .u8 0,.int .i64 0,.bool false] by rw [hE,if_neg g];rfl);have g':((u.size:Int) == 1)=false:=(by rw [aN];omega);have g'':((u.size:Int) != 1)=true:=(by simp;omega);clear hE;go_enter Tryz.func160,Tryz.ntmps160;go_wp2_with fail;refine (HR.o _).mono ?_;rintro e w3 ⟨he,hb3⟩;obtain rfl:=wY he;clear he;go_wp2
   go_ret3
   exact ⟨by rw [HE.o];rfl,hb3⟩
theorem Ab (lo hi:Nat) (hl:lo < 256) (hh:hi < 256) (w:World) :
  Calls Tryz.prog 161 #[.int .u8 (lo:Int),.int .u8 (hi:Int)] w
   fun e w'=>e=.returned (.agg #[.int .u64 (bQ 0 lo (hi + 1):Int),.int .u64 (bQ 1 lo (hi + 1):Int),.int .u64 (bQ 2 lo (hi + 1):Int),.int .u64 (bQ 3 lo (hi + 1):Int)])/\Below w.heap.size w w':=by
 go_enter Tryz.func161,Tryz.ntmps161;go_wp2
 go_loopw [6] (fun b wr=>∃ m:Nat,lo<=m/\(m<=hi + 1\/m=lo)/\b=.int .i64 (m:Int)/\Own wr w.heap.size 29 [.int .u64 0,.int .u64 0,.int .u64 0,.int .u64 0] ∧
   Own wr (w.heap.size + 1) 29 [.int .u64 (bQ 0 lo m:Int),.int .u64 (bQ 1 lo m:Int),.int .u64 (bQ 2 lo m:Int),.int .u64 (bQ 3 lo m:Int)]/\Below w.heap.size w wr)
  (fun b _=>hi + 1 - (intOf b).toNat)
 case atStart=>
  refine ⟨lo,Nat.le_refl _,.inr rfl,rfl,(Own.fresh w _ _).on_alloc _,?_,by go_grown⟩;simp only [Qz];exact Own.fresh' (by simp) _ _
 case round =>
  obtain ⟨m,hm1,hm2,rfl,ho,hs,hb⟩:=hrel;obtain ⟨o0,o1,o2,o3,q0,q1,q2,q3⟩:=ho.four;obtain ⟨s0,s1,s2,s3,r0,r1,r2,r3⟩:=hs.four;by_cases hlt:m<=hi
  ·
   go_wp2_with fail;refine (Cq _ _ _ _ _ (by omega) (eZ ..) (eZ ..) (eZ ..) (eZ ..) _).mono ?_;rintro e w1 ⟨rfl,hb1⟩;have ho1:=ho.under hb1 ho.lt;have hs1:=hs.under hb1 hs.lt;clear o0 o1 o2 o3 q0 q1 q2 q3 s0 s1 s2 s3 r0 r1 r2 r3;obtain ⟨s0,s1,s2,s3,r0,r1,r2,r3⟩:=hs1.four;go_wp2
   go_roundw
   case rel =>
    refine ⟨m + 1,by omega,by omega,by go_num,ho1.off4 (by omega) _ _ _ _,?_,aR (hb.trans (hb1.mono hb.size)) (by omega) _ _ _ _⟩;simp only [Yr hm1];exact hs1.put4
   case measure=>simp [intOf];omega
  · have E (i:Nat):=A1s (i:=i) hlt hm2;have H:=aH E;clear E;go_wp2;rw [aW];have hF:=(p4 ho (.int .u64 (bQ 0 lo m:Int)) (.int .u64 (bQ 1 lo m:Int)) (.int .u64 (bQ 2 lo m:Int)) (.int .u64 (bQ 3 lo m:Int)));have hB:=aR hb (Nat.le_refl _) (.int .u64 (bQ 0 lo m:Int)) (.int .u64 (bQ 1 lo m:Int)) (.int .u64 (bQ 2 lo m:Int)) (.int .u64 (bQ 3 lo m:Int));obtain ⟨z0,z1,z2,z3,-⟩:=hF.four;refine bodyPost_ret (by simp [results,Tryz.results161,go_sem,z0,z1,z2,z3];rfl) rfl ?_;exact ⟨pY (by rw [H.o]) (by rw [H.o]) (by rw [H.o]) (by rw [H.o]),hB⟩
def rowO (s:ByteArray) (k:Nat):Option ((Nat × Nat) × Nat) :=
 match sglO s k with
 | none=>none
 | some (lo,m) =>
  if bG s (m:Int) 45=true then
   match sglO s (m + 1) with
   | none=>none
   | some (hi,m')=>if hi < lo then none else some ((lo.toNat,hi.toNat),m')
  else some ((lo.toNat,lo.toNat),m)
def NZ:Option ((Nat × Nat) × Nat)->Value
 | none=>.tuple #[.agg #[.int .u64 0,.int .u64 0,.int .u64 0,.int .u64 0],.int .i64 0,.bool false]
 | some ((lo,hi),m)=>.tuple #[.agg #[.int .u64 (bQ 0 lo (hi + 1):Int),.int .u64 (bQ 1 lo (hi + 1):Int),.int .u64 (bQ 2 lo (hi + 1):Int),.int .u64 (bQ 3 lo (hi + 1):Int)],.int .i64 (m:Int),.bool true]
theorem rV {s:ByteArray} {k:Nat} (h:sglO s k=none):rowO s k=none:=by unfold rowO;rw [h]
theorem yL {s:ByteArray} {k m:Nat} {lo:Int} (h:sglO s k=some (lo,m)) (hd:bG s (m:Int) 45=false):rowO s k=some ((lo.toNat,lo.toNat),m):=by unfold rowO;rw [h];show (if _ then _ else _)=_;rw [if_neg (by rw [hd];decide)]
theorem yM {s:ByteArray} {k m:Nat} {lo:Int} (h:sglO s k=some (lo,m)) (hd:bG s (m:Int) 45=true):rowO s k=match sglO s (m + 1) with
   | none=>none
   | some (hi,m')=>if hi < lo then none else some ((lo.toNat,hi.toNat),m'):=by
 unfold rowO;rw [h];show (if _ then _ else _)=_;rw [if_pos hd]
theorem A6J (s:ByteArray) (hs:s.size<=1000000) (k:Nat) (hk:k<=1000100) (w:World) :
  Calls Tryz.prog 140 #[.string s,.int .i64 (k:Int)] w fun e w'=>e=.returned (NZ (rowO s k))/\Below w.heap.size w w':=by
 have HR:=aH (fun W=>ME s hs k (by omega) W)
 cases hq:sglO s k with
 | none =>
  have HE:=aH (congrArg NZ (rV hq));rw [hq] at HR;simp only [Ku] at HR;clear hq;have HO0:=aH (Own.fresh w 29 [.int .u64 0,.int .u64 0,.int .u64 0,.int .u64 0]);have HB0:=aH (show Below w.heap.size w (w.alloc (.cells #[.int .u64 0,.int .u64 0,.int .u64 0,.int .u64 0] 29)) from bA _);go_enter Tryz.func140,Tryz.ntmps140;go_wp2_with fail;refine (HR.o _).mono ?_;rintro e w2 ⟨he,hb2⟩;subst he;have HO2:=aH (HO0.o.under hb2 HO0.o.lt);have HB2:=aH (aD HB0.o hb2);clear hb2 HO0 HB0;obtain ⟨z0,z1,z2,z3,y0,y1,y2,y3⟩:=HO2.o.four;go_wp2;rw [aW];have hF:=(p4 HO2.o (.int .u64 0) (.int .u64 0) (.int .u64 0) (.int .u64 0));have hB:=aR HB2.o (Nat.le_refl _) (.int .u64 0) (.int .u64 0) (.int .u64 0) (.int .u64 0);clear z0 z1 z2 z3 y0 y1 y2 y3;obtain ⟨z0,z1,z2,z3,-⟩:=hF.four;refine bodyPost_ret (by simp [results,Tryz.results140,go_sem,z0,z1,z2,z3];rfl) rfl ?_;exact ⟨by rw [HE.o];rfl,hB⟩
 | some p =>
  obtain ⟨c,m⟩:=p;obtain ⟨b1,b2,b3,b4,b5⟩:=Dm hq;obtain ⟨lo,rfl⟩:∃ lo:Nat,c=(lo:Int):=⟨c.toNat,by omega⟩;have hlo:lo < 256:=by omega
  have HS:=aH (fun W=>oQ s (m:Int) 45 W);obtain ⟨bd,hd⟩:∃ bd,bG s (m:Int) 45=bd:=⟨_,rfl⟩
  cases bd
  · have HE:=aH (congrArg NZ (yL hq hd));rw [Int.toNat_natCast] at HE;rw [hq] at HR;simp only [Ku] at HR;rw [hd] at HS;have HG:=aH (fun W=>Ab lo lo hlo hlo W);clear hq hd;have HO0:=aH (Own.fresh w 29 [.int .u64 0,.int .u64 0,.int .u64 0,.int .u64 0]);have HB0:=aH (show Below w.heap.size w (w.alloc (.cells #[.int .u64 0,.int .u64 0,.int .u64 0,.int .u64 0] 29)) from bA _);go_enter Tryz.func140,Tryz.ntmps140;go_wp2_with fail;refine (HR.o _).mono ?_;rintro e w2 ⟨he,hb2⟩;subst he;have HO2:=aH (HO0.o.under hb2 HO0.o.lt);have HB2:=aH (aD HB0.o hb2);clear hb2 HO0 HB0;go_wp2_with fail;refine (HS.o _).mono ?_;rintro e wx ⟨rfl,rfl⟩;go_wp2_with fail;refine (HG.o _).mono ?_;rintro e w3 ⟨he,hb3⟩;subst he;have HO3:=aH (HO2.o.under hb3 HO2.o.lt);have HB3:=aH (aD HB2.o hb3);clear hb3 HO2 HB2;obtain ⟨z0,z1,z2,z3,y0,y1,y2,y3⟩:=HO3.o.four;go_wp2;rw [aW];have hF:=(p4 HO3.o (.int .u64 (bQ 0 lo (lo + 1):Int)) (.int .u64 (bQ 1 lo (lo + 1):Int)) (.int .u64 (bQ 2 lo (lo + 1):Int)) (.int .u64 (bQ 3 lo (lo + 1):Int)));have hB:=aR HB3.o (Nat.le_refl _) (.int .u64 (bQ 0 lo (lo + 1):Int)) (.int .u64 (bQ 1 lo (lo + 1):Int)) (.int .u64 (bQ 2 lo (lo + 1):Int)) (.int .u64 (bQ 3 lo (lo + 1):Int));clear z0 z1 z2 z3 y0 y1 y2 y3;obtain ⟨z0,z1,z2,z3,-⟩:=hF.four;refine bodyPost_ret (by simp [results,Tryz.results140,go_sem,z0,z1,z2,z3];rfl) rfl ?_;exact ⟨by rw [HE.o];rfl,hB⟩
  ·
   have hE:=yM hq hd;have HR2:=aH (fun W=>ME s hs (m + 1) (by omega) W);rw [show ((m + 1:Nat):Int)=(m:Int) + 1 by omega] at HR2;rw [hq] at HR;simp only [Ku] at HR;rw [hd] at HS;clear hq hd
   cases hq:sglO s (m + 1) with
   | none =>
    have HE:=aH (congrArg NZ (hE.trans (by rw [hq])));rw [hq] at HR2;simp only [Ku] at HR2;clear hq hE;have HO0:=aH (Own.fresh w 29 [.int .u64 0,.int .u64 0,.int .u64 0,.int .u64 0]);have HB0:=aH (show Below w.heap.size w (w.alloc (.cells #[.int .u64 0,.int .u64 0,.int .u64 0,.int .u64 0] 29)) from bA _);go_enter Tryz.func140,Tryz.ntmps140;go_wp2_with fail;refine (HR.o _).mono ?_;rintro e w2 ⟨he,hb2⟩;subst he;have HO2:=aH (HO0.o.under hb2 HO0.o.lt);have HB2:=aH (aD HB0.o hb2);clear hb2 HO0 HB0;go_wp2_with fail;refine (HS.o _).mono ?_;rintro e wx ⟨rfl,rfl⟩;go_wp2_with fail;refine (HR2.o _).mono ?_;rintro e w3 ⟨he,hb3⟩;subst he;have HO3:=aH (HO2.o.under hb3 HO2.o.lt);have HB3:=aH (aD HB2.o hb3);clear hb3 HO2 HB2;obtain ⟨z0,z1,z2,z3,y0,y1,y2,y3⟩:=HO3.o.four;go_wp2;rw [aW];have hF:=(p4 HO3.o (.int .u64 0) (.int .u64 0) (.int .u64 0) (.int .u64 0));have hB:=aR HB3.o (Nat.le_refl _) (.int .u64 0) (.int .u64 0) (.int .u64 0) (.int .u64 0);clear z0 z1 z2 z3 y0 y1 y2 y3;obtain ⟨z0,z1,z2,z3,-⟩:=hF.four;refine bodyPost_ret (by simp [results,Tryz.results140,go_sem,z0,z1,z2,z3];rfl) rfl ?_;exact ⟨by rw [HE.o];rfl,hB⟩
   | some p =>
    obtain ⟨c,m'⟩:=p;obtain ⟨b6,b7,b8,b9,b10⟩:=Dm hq;obtain ⟨hi,rfl⟩:∃ hi:Nat,c=(hi:Int):=⟨c.toNat,by omega⟩;have hhi:hi < 256:=(by omega);rw [hq] at HR2 hE;simp only [Ku] at HR2;clear hq;by_cases g:(hi:Int) < (lo:Int)
    · have HE:=aH (congrArg NZ (hE.trans (if_pos g)));clear hE;have HO0:=aH (Own.fresh w 29 [.int .u64 0,.int .u64 0,.int .u64 0,.int .u64 0]);have HB0:=aH (show Below w.heap.size w (w.alloc (.cells #[.int .u64 0,.int .u64 0,.int .u64 0,.int .u64 0] 29)) from bA _);go_enter Tryz.func140,Tryz.ntmps140;go_wp2_with fail;refine (HR.o _).mono ?_;rintro e w2 ⟨he,hb2⟩;subst he;have HO2:=aH (HO0.o.under hb2 HO0.o.lt);have HB2:=aH (aD HB0.o hb2);clear hb2 HO0 HB0;go_wp2_with fail;refine (HS.o _).mono ?_;rintro e wx ⟨rfl,rfl⟩;go_wp2_with fail;refine (HR2.o _).mono ?_;rintro e w3 ⟨he,hb3⟩;subst he;have HO3:=aH (HO2.o.under hb3 HO2.o.lt);have HB3:=aH (aD HB2.o hb3);clear hb3 HO2 HB2;obtain ⟨z0,z1,z2,z3,y0,y1,y2,y3⟩:=HO3.o.four;go_wp2;rw [aW];have hF:=(p4 HO3.o (.int .u64 0) (.int .u64 0) (.int .u64 0) (.int .u64 0));have hB:=aR HB3.o (Nat.le_refl _) (.int .u64 0) (.int .u64 0) (.int .u64 0) (.int .u64 0);clear z0 z1 z2 z3 y0 y1 y2 y3;obtain ⟨z0,z1,z2,z3,-⟩:=hF.four;refine bodyPost_ret (by simp [results,Tryz.results140,go_sem,z0,z1,z2,z3];rfl) rfl ?_;exact ⟨by rw [HE.o];rfl,hB⟩
    · have HE:=aH (congrArg NZ (hE.trans (if_neg g)));rw [Int.toNat_natCast,Int.toNat_natCast] at HE;have HG:=aH (fun W=>Ab lo hi hlo hhi W);clear hE;have HO0:=aH (Own.fresh w 29 [.int .u64 0,.int .u64 0,.int .u64 0,.int .u64 0]);have HB0:=aH (show Below w.heap.size w (w.alloc (.cells #[.int .u64 0,.int .u64 0,.int .u64 0,.int .u64 0] 29)) from bA _);go_enter Tryz.func140,Tryz.ntmps140;go_wp2_with fail;refine (HR.o _).mono ?_;rintro e w2 ⟨he,hb2⟩;subst he;have HO2:=aH (HO0.o.under hb2 HO0.o.lt);have HB2:=aH (aD HB0.o hb2);clear hb2 HO0 HB0;go_wp2_with fail;refine (HS.o _).mono ?_;rintro e wx ⟨rfl,rfl⟩;go_wp2_with fail;refine (HR2.o _).mono ?_;rintro e w3 ⟨he,hb3⟩;subst he;have HO3:=aH (HO2.o.under hb3 HO2.o.lt);have HB3:=aH (aD HB2.o hb3);clear hb3 HO2 HB2;go_wp2_with fail;refine (HG.o _).mono ?_;rintro e w4 ⟨he,hb4⟩;subst he;have HO4:=aH (HO3.o.under hb4 HO3.o.lt);have HB4:=aH (aD HB3.o hb4);clear hb4 HO3 HB3;obtain ⟨z0,z1,z2,z3,y0,y1,y2,y3⟩:=HO4.o.four;go_wp2;rw [aW];have hF:=(p4 HO4.o (.int .u64 (bQ 0 lo (hi + 1):Int)) (.int .u64 (bQ 1 lo (hi + 1):Int)) (.int .u64 (bQ 2 lo (hi + 1):Int)) (.int .u64 (bQ 3 lo (hi + 1):Int)));have hB:=aR HB4.o (Nat.le_refl _) (.int .u64 (bQ 0 lo (hi + 1):Int)) (.int .u64 (bQ 1 lo (hi + 1):Int)) (.int .u64 (bQ 2 lo (hi + 1):Int)) (.int .u64 (bQ 3 lo (hi + 1):Int));clear z0 z1 z2 z3 y0 y1 y2 y3;obtain ⟨z0,z1,z2,z3,-⟩:=hF.four;refine bodyPost_ret (by simp [results,Tryz.results140,go_sem,z0,z1,z2,z3];rfl) rfl ?_;exact ⟨by rw [HE.o];rfl,hB⟩
theorem xW {s:ByteArray} {k m lo hi:Nat} (h:rowO s k=some ((lo,hi),m)):k < s.size/\k < m/\m<=k + 21/\lo < 256/\hi < 256:=by
 cases hq:sglO s k with
 | none=>rw [rV hq] at h;cases h
 | some p =>
  obtain ⟨c,n⟩:=p;obtain ⟨b1,b2,b3,b4,b5⟩:=Dm hq
  cases hd:bG s (n:Int) 45 with
  | false =>
   rw [yL hq hd] at h;injection h with h;injection h with h1 h2;injection h1 with h3 h4;omega
  | true =>
   rw [yM hq hd] at h
   cases hr:sglO s (n + 1) with
   | none=>rw [hr] at h;cases h
   | some p =>
    obtain ⟨c',n'⟩:=p;obtain ⟨d1,d2,d3,d4,d5⟩:=Dm hr;rw [hr] at h;simp only at h;split at h
    · cases h
    · injection h with h;injection h with h1 h2;injection h1 with h3 h4;omega
theorem LC {s:ByteArray} {k:Nat} (h:bG s (k:Int) 93=true):rowO s k=none:=by obtain ⟨h1,h2⟩:=fP.1 h;apply rV;apply rY;rw [jB h1 h2,if_neg (by decide),if_neg (by decide)]
abbrev bO:=Nat × Nat × Nat × Nat
def orR (x:bO) (lo hi:Nat):bO:=(x.1 ||| bQ 0 lo (hi + 1),x.2.1 ||| bQ 1 lo (hi + 1),x.2.2.1 ||| bQ 2 lo (hi + 1),x.2.2.2 ||| bQ 3 lo (hi + 1))
def rwsF (s:ByteArray):Nat->Nat->bO->Option (bO × Nat)
 | 0,_,_=>none
 | f + 1,k,x =>
  match rowO s k with
  | none=>none
  | some ((lo,hi),m)=>if bG s (m:Int) 93=true then some (orR x lo hi,m) else rwsF s f m (orR x lo hi)
theorem xX {s:ByteArray} {f k:Nat} {x:bO} (h:rowO s k=none):rwsF s f k x=none:=by
 cases f
 · rfl
 · unfold rwsF;rw [h]
theorem Ic {s:ByteArray} {f k m lo hi:Nat} {x:bO} (hf:s.size < f + k) (h:rowO s k=some ((lo,hi),m)) :
  rwsF s f k x=if bG s (m:Int) 93=true then some (orR x lo hi,m) else rwsF s (f - 1) m (orR x lo hi):=by
 have hk:=(xW h).1;obtain ⟨g,rfl⟩:∃ g,f=g + 1:=⟨f - 1,by omega⟩;rw [rwsF.eq_2,h];rfl
def At (U:ByteArray) (k:Nat) (l:List UInt8):Prop:=∃ pre post,U.data.toList=pre ++ (l ++ post)/\pre.length=k
theorem At.app {U:ByteArray} {k:Nat} {l r:List UInt8} (h:At U k (l ++ r)):At U k l/\At U (k + l.length) r:=by obtain ⟨pre,post,h,hk⟩:=h;refine ⟨⟨pre,r ++ post,by rw [h,List.append_assoc],hk⟩,⟨pre ++ l,post,by rw [h];simp,by rw [List.length_append,hk]⟩⟩
theorem At.cons {U:ByteArray} {k:Nat} {x:UInt8} {l:List UInt8} (h:At U k (x :: l)):k < U.size/\byt U k=(x.toNat:Int)/\At U (k + 1) l:=by
 obtain ⟨pre,post,h,hk⟩:=h;refine ⟨?_,?_,⟨pre ++ [x],post,by rw [h];simp,by rw [List.length_append,hk];rfl⟩⟩
 ·
  have h2:U.data.toList.length=U.size:=by simp
  rw [<- h2,h,List.length_append,List.length_append,List.length_cons];omega
 · unfold byt;rw [h,List.getD_eq_getElem?_getD,List.getElem?_append_right (by omega)];simp [hk]
theorem At.le {U:ByteArray} {k:Nat} {l:List UInt8} (h:At U k l):k + l.length<=U.size:=by
 obtain ⟨pre,post,h,hk⟩:=h;have h2:U.data.toList.length=U.size:=by simp
 rw [<- h2,h,List.length_append,List.length_append];omega
def nb (c:Int):UInt8:=UInt8.ofNat c.toNat
theorem Zz {c:Int} (h0:0<=c) (h1:c<=255):((nb c).toNat:Int)=c:=by unfold nb;rw [UInt8.toNat_ofNat'];omega
theorem UX {d:Int} (h0:0<=d) (h1:d<=15):48<=dgv d/\dgv d<=102/\iX (dgv d)=d:=by
 unfold dgv iX;by_cases h:d < 10
 · rw [if_pos h,if_pos (by omega)];omega
 · rw [if_neg h,if_neg (by omega),if_pos (by omega)];omega
def Fair (sp:ByteArray):Prop:=isSp sp 110=false/\isSp sp 116=false/\isSp sp 120=false/\isSp sp 92=false
theorem A9s:Fair spT:=⟨by decide +kernel,by decide +kernel,by decide +kernel,by decide +kernel⟩
theorem Qa:Fair spC:=⟨by decide +kernel,by decide +kernel,by decide +kernel,by decide +kernel⟩
theorem YA (sp:ByteArray) {c:Int} (h0:0<=c) (h1:c<=255) :
  (jF sp c=true/\(wrS sp c).data.toList=[nb c])\/(jF sp c=false/\c=10/\(wrS sp c).data.toList=[92,110])\/(jF sp c=false/\c=9/\(wrS sp c).data.toList=[92,116]) ∨
  (jF sp c=false/\(c == 92 || isSp sp c)=true/\(wrS sp c).data.toList=[92,nb c])\/(jF sp c=false/\(wrS sp c).data.toList=[92,120,nb (dgv (c / 16)),nb (dgv (c % 16))]):=by
 unfold wrS
 cases hp:jF sp c
 ·
  rw [if_neg (by decide)];by_cases h2:c=10
  · rw [if_pos h2];exact .inr (.inl ⟨rfl,h2,rfl⟩)
  ·
   rw [if_neg h2];by_cases h3:c=9
   · rw [if_pos h3];exact .inr (.inr (.inl ⟨rfl,h3,rfl⟩))
   ·
    rw [if_neg h3]
    cases h4:(c == 92 || isSp sp c)
    · rw [if_neg (by decide)];exact .inr (.inr (.inr (.inr ⟨rfl,rfl⟩)))
    · rw [if_pos rfl];exact .inr (.inr (.inr (.inl ⟨rfl,rfl,rfl⟩)))
 · rw [if_pos rfl];exact .inl ⟨rfl,rfl⟩
theorem RN {sp:ByteArray} {c:Int} (h:jF sp c=true):isSp sp c=false/\32<=c/\c<=126/\c ≠ 92:=by unfold jF at h;simp at h;exact ⟨h.2,h.1.1.1,h.1.1.2,h.1.2⟩
theorem Le (sp:ByteArray) (hf:Fair sp) {c:Int} (h0:0<=c) (h1:c<=255):∃ x l,(wrS sp c).data.toList=x :: l/\isSp sp (x.toNat:Int)=false:=by
 rcases YA sp h0 h1 with ⟨hp,h⟩ | ⟨-,-,h⟩ | ⟨-,-,h⟩ | ⟨-,-,h⟩ | ⟨-,h⟩
 · refine ⟨_,_,h,?_⟩;rw [Zz h0 h1];exact (RN hp).1
 all_goals exact ⟨_,_,h,hf.2.2.2⟩
theorem DW {U:ByteArray} {sp:ByteArray} (hf:Fair sp) {k:Nat} {c:Int} (h0:0<=c) (h1:c<=255) (hA:At U k (wrS sp c).data.toList) :
  readO U k sp=some (strOfNums [c],k + (wrS sp c).data.toList.length):=by
 obtain ⟨f1,f2,f3,f4⟩:=hf;rcases YA sp h0 h1 with ⟨hp,h⟩ | ⟨hp,hc,h⟩ | ⟨hp,hc,h⟩ | ⟨hp,hc,h⟩ | ⟨hp,h⟩
 · rw [h] at hA ⊢;obtain ⟨a1,a2,-⟩:=hA.cons;rw [Zz h0 h1] at a2;rw [jB a1 a2,if_pos hp];rfl
 · subst hc;rw [h] at hA ⊢;obtain ⟨a1,a2,hA⟩:=hA.cons;obtain ⟨b1,b2,-⟩:=hA.cons;have b2:byt U (k + 1)=110:=b2;have a2:byt U k=92:=a2;rw [jB a1 a2,Ke sp,if_neg (by decide),if_pos rfl,kW b1 b2,if_pos rfl];rfl
 · subst hc;rw [h] at hA ⊢;obtain ⟨a1,a2,hA⟩:=hA.cons;obtain ⟨b1,b2,-⟩:=hA.cons;have b2:byt U (k + 1)=116:=b2;have a2:byt U k=92:=a2;rw [jB a1 a2,Ke sp,if_neg (by decide),if_pos rfl,kW b1 b2,if_neg (by decide),if_pos rfl];rfl
 ·
  rw [h] at hA ⊢;obtain ⟨a1,a2,hA⟩:=hA.cons;obtain ⟨b1,b2,-⟩:=hA.cons;have a2:byt U k=92:=a2;rw [Zz h0 h1] at b2;have n1:c ≠ 110:=by rintro rfl;rw [f1] at hc;cases hc
  have n2:c ≠ 116:=by rintro rfl;rw [f2] at hc;cases hc
  rw [jB a1 a2,Ke sp,if_neg (by decide),if_pos rfl,kW b1 b2,if_neg n1,if_neg n2,if_pos hc];rfl
 ·
  rw [h] at hA ⊢;obtain ⟨a1,a2,hA⟩:=hA.cons;obtain ⟨b1,b2,hA⟩:=hA.cons;have a2:byt U k=92:=a2;have b2:byt U (k + 1)=120:=b2;obtain ⟨c1,c2,hA⟩:=hA.cons;obtain ⟨d1,d2,-⟩:=hA.cons;obtain ⟨p1,p2,p3⟩:=UX (d:=c / 16) (by omega) (by omega);obtain ⟨q1,q2,q3⟩:=UX (d:=c % 16) (by omega) (by omega);rw [Zz (by omega) (by omega)] at c2 d2;have e1:hexN U (k + 1 + 1) 1=1:=by show (if hexN U (k + 1 + 1) 0=0/\k + 1 + 1 + 0 < U.size/\0<=iX (byt U (k + 1 + 1 + 0)) then 0 + 1 else hexN U (k + 1 + 1) 0)=1;rw [if_pos ⟨rfl,c1,by rw [Nat.add_zero,c2,p3];omega⟩]
  have e2:hexN U (k + 1 + 1) 2=2:=by show (if hexN U (k + 1 + 1) 1=1/\k + 1 + 1 + 1 < U.size/\0<=iX (byt U (k + 1 + 1 + 1)) then 1 + 1 else hexN U (k + 1 + 1) 1)=2;rw [if_pos ⟨e1,d1,by rw [d2,q3];omega⟩]
  have e3:valN U (k + 1 + 1) 2=c:=by show (0 * 16 + iX (byt U (k + 1 + 1 + 0))) * 16 + iX (byt U (k + 1 + 1 + 1))=c;rw [Nat.add_zero,c2,d2,p3,q3];omega
  rw [jB a1 a2,Ke sp,if_neg (by decide),if_pos rfl,kW b1 b2,if_neg (by decide),if_neg (by decide),
   if_neg (by rw [f3];decide),if_pos rfl,if_pos e2,e3];rfl
theorem XY (s:ByteArray) (j:Nat):∀ d,∃ r,wrT s (j + d)=wrT s j ++ r
 | 0=>⟨[],by simp⟩
 | d + 1=>by obtain ⟨r,h⟩:=XY s j d;refine ⟨r ++ (wrS spT (byt s (j + d))).data.toList,?_⟩;show wrT s (j + d) ++ _=_;rw [h,List.append_assoc];rfl
theorem At.left {U:ByteArray} {k:Nat} {l r:List UInt8} (h:At U k (l ++ r)):At U k l:=h.app.1
theorem UZ {s:ByteArray} {j:Nat} (h:j < s.size):s.extract 0 j ++ strOfNums [byt s j]=s.extract 0 (j + 1):=by
 rw [<- one_byte h,ByteArray.extract_append_extract]
 congr 1 <;> omega
theorem B8B {c:Int} (h0:0<=c) (h1:c<=255) (h:isSp spT c=false):c ≠ 34:=by rw [B0a h0 h1] at h;exact aN.1 h
theorem UA {U s:ByteArray} {a:Nat} (hA:At U a (wrT s s.size ++ [34])):∀ j,j<=s.size->∃ f,U.size < f + (a + (wrT s j).length) ∧
  txtF U (U.size + 1) (a + 1) ⟨#[]⟩=txtF U f (a + (wrT s j).length) (s.extract 0 j)
 | 0,_=>⟨U.size + 1,by omega,by
   have e:s.extract 0 0=(⟨#[]⟩:ByteArray):=by apply kT;rw [ByteArray.data_extract];simp
   rw [e];rfl⟩
 | j + 1,hj=>by
  obtain ⟨f,h1,h2⟩:=UA hA j (by omega);obtain ⟨r,hr⟩:=XY s (j + 1) (s.size - (j + 1));rw [show j + 1 + (s.size - (j + 1))=s.size by omega] at hr;have hB:At U a (wrT s j ++ (wrS spT (byt s j)).data.toList):=by rw [hr] at hA;exact hA.left.left
  have hC:=hB.app.2;obtain ⟨c0,c1⟩:=tX s j;have hR:=DW A9s c0 c1 hC;obtain ⟨x,l,hx,hsp⟩:=Le spT A9s c0 c1;have hne:byt U (a + (wrT s j).length) ≠ 34:=by rw [hx] at hC;rw [hC.cons.2.1];exact B8B (by omega) (by have:=x.toNat_lt;omega) hsp
  refine ⟨f - 1,?_,?_⟩
  · show U.size < f - 1 + (a + (wrT s j ++ (wrS spT (byt s j)).data.toList).length);rw [List.length_append,hx];simp only [List.length_cons];omega
  · rw [h2,XP h1 hne hR,UZ (by omega)];show _=txtF U (f - 1) (a + (wrT s j ++ (wrS spT (byt s j)).data.toList).length) _;rw [List.length_append,Nat.add_assoc]
theorem Oi (s:ByteArray):(gU s).data.toList=wrT s s.size ++ [34]:=by show (wrT s s.size ++ [34]).toArray.toList=_;simp
theorem A2j (s:ByteArray):∃ r,wrT s s.size=34 :: r:=by obtain ⟨r,h⟩:=XY s 0 s.size;rw [Nat.zero_add] at h;exact ⟨r,by rw [h];rfl⟩
theorem TU (s:ByteArray):(gU s).size=(wrT s s.size).length + 1:=by
 have:(gU s).data.toList.length=(gU s).size:=by simp
 rw [<- this,Oi,List.length_append];rfl
theorem MV {U s:ByteArray} {a:Nat} (hA:At U a (gU s).data.toList):txtO U (a:Int)=if s.size=0\/40 < s.size then none else some (s,a + (gU s).size):=by rw [Oi] at hA;obtain ⟨r,hr⟩:=A2j s;have h0:=hA;rw [hr] at h0;obtain ⟨b1,b2,-⟩:=(show At U a (34 :: (r ++ [34])) from h0).cons;obtain ⟨f,h1,h2⟩:=UA hA s.size (Nat.le_refl _);obtain ⟨d1,d2,-⟩:=hA.app.2.cons;unfold txtO;rw [if_pos (fP.2 ⟨b1,(show byt U a=34 from b2)⟩),Int.toNat_natCast,h2,MP h1 d1 d2,ByteArray.extract_zero_size,TU];rfl
theorem MS {s:ByteArray}:∀ f k out u m,txtF s f k out=some (u,m)->k < m/\m<=s.size/\byt s (m - 1)=34/\1<=u.size/\u.size<=40
 | 0,k,out,u,m=>fun h=>by cases h
 | f + 1,k,out,u,m=>fun h=>by
  rw [txtF.eq_2] at h;split at h
  ·
   split at h
   ·
    split at h
    · cases h
    · rename_i g1 g2 g3;injection h with h;injection h with h3 h4;subst h3 h4;exact ⟨by omega,by omega,by rw [Nat.add_sub_cancel];exact g2,by omega,by omega⟩
   ·
    cases hr:readO s k spT with
    | none=>rw [hr] at h;cases h
    | some p =>
     obtain ⟨v,n⟩:=p;rw [hr] at h;have:=tK hr;have h2:=MS f n _ u m h;exact ⟨by omega,h2.2⟩
  · cases h
theorem MU {s:ByteArray} {i:Nat} {u:ByteArray} {m:Nat} (h:txtO s (i:Int)=some (u,m)):i < m/\m<=s.size/\byt s (m - 1)=34/\1<=u.size/\u.size<=40:=by
 unfold txtO at h;split at h
 · have:=MS _ _ _ _ _ h;rw [Int.toNat_natCast] at this;exact ⟨by omega,this.2⟩
 · cases h
def cnt (p:Nat->Bool):Nat->Nat
 | 0=>0
 | n + 1=>cnt p n + (if p n then 1 else 0)
theorem rM {p q:Nat->Bool} {n:Nat} (h:∀ x,x < n->p x=q x):cnt p n=cnt q n:=by
 induction n with
 | zero=>rfl
 | succ n ih=>unfold cnt;rw [ih fun x hx=>h x (by omega),h n (by omega)]
theorem Sz (p:Nat->Bool) (m n:Nat):cnt p (m + n)=cnt p m + cnt (fun x=>p (m + x)) n:=by
 induction n with
 | zero=>rfl
 | succ n ih =>
  rw [<- Nat.add_assoc];show cnt p (m + n) + _=cnt p m + (cnt (fun x=>p (m + x)) n + _);rw [ih,Nat.add_assoc]
theorem A7A (p:Nat->Bool) (n:Nat):cnt p (n + 1)=(if p 0 then 1 else 0) + cnt (fun x=>p (x + 1)) n:=by
 rw [Nat.add_comm n 1,Sz];have:cnt (fun x=>p (1 + x)) n=cnt (fun x=>p (x + 1)) n:=rM fun x _=>by rw [Nat.add_comm]
 rw [this];simp [cnt]
theorem Vd (n:Nat):∀ a,JY n a=cnt a.testBit n:=by
 induction n with
 | zero=>intro a;rfl
 | succ n ih =>
  intro a;rw [A7A];unfold JY;rw [ih];have h1:cnt (a / 2).testBit n=cnt (fun x=>a.testBit (x + 1)) n:=rM fun x _=>by rw [Nat.testBit_succ]
  rw [h1,Nat.testBit_zero];have:=Nat.mod_two_eq_zero_or_one a;rcases this with h | h <;> simp [h]
theorem B3l (a b c d x:Nat) (h:x < 64):dH a b c d (0 + x)=a.testBit x:=by unfold dH word;rw [show (0 + x) / 64=0 by omega,show (0 + x) % 64=x by omega];rfl
theorem B3m (a b c d x:Nat) (h:x < 64):dH a b c d (64 + x)=b.testBit x:=by unfold dH word;rw [show (64 + x) / 64=1 by omega,show (64 + x) % 64=x by omega];rfl
theorem word2 (a b c d x:Nat) (h:x < 64):dH a b c d (128 + x)=c.testBit x:=by unfold dH word;rw [show (128 + x) / 64=2 by omega,show (128 + x) % 64=x by omega];rfl
theorem B3n (a b c d x:Nat) (h:x < 64):dH a b c d (192 + x)=d.testBit x:=by unfold dH word;rw [show (192 + x) / 64=3 by omega,show (192 + x) % 64=x by omega];rfl
theorem sP (a b c d:Nat):card a b c d=cnt (dH a b c d) 256:=by rw [show 256=0 + 64 + 64 + 64 + 64 from rfl,Sz,Sz,Sz,Sz];unfold card pop;rw [Vd,Vd,Vd,Vd,rM (B3l a b c d),rM (B3m a b c d),rM (word2 a b c d),rM (B3n a b c d)];simp [cnt]
theorem four {x:Nat} (hx:x < 256):x / 64=0\/x / 64=1\/x / 64=2\/x / 64=3:=by omega
theorem GQ (a b c d a' b' c' d' x:Nat) (hx:x < 256):dH (a ||| a') (b ||| b') (c ||| c') (d ||| d') x=(dH a b c d x || dH a' b' c' d' x):=by unfold dH word;rcases four hx with h | h | h | h <;> rw [h] <;> exact Nat.testBit_or ..
theorem BO {a i:Nat} (ha:a < P64) (hi:i < 64):(dU a).testBit i=!a.testBit i:=by
 have h:=Nat.testBit_two_pow_sub_succ (n:=64) (x:=a) ha i;have e:dU a=2 ^ 64 - (a + 1):=by unfold dU P64;omega
 rw [e,h];simp [hi]
theorem Xp (a b c d x:Nat) (hx:x < 256) (ha:a < P64) (hb:b < P64) (hc:c < P64) (hd:d < P64):dH (dU a) (dU b) (dU c) (dU d) x=!dH a b c d x:=by
 unfold dH word;have hm:x % 64 < 64:=by omega
 rcases four hx with h | h | h | h <;> rw [h]
 · exact BO ha hm
 · exact BO hb hm
 · exact BO hc hm
 · exact BO hd hm
theorem Gy (a b c d x y:Nat) (hx:x < 256) (hy:y < 256):dH (dK a y 0) (dK b y 1) (dK c y 2) (dK d y 3) x=(dH a b c d x || decide (x=y)):=by
 unfold dH word dK;rcases four hx with h | h | h | h <;> rw [h] <;> simp only [] <;> split
 all_goals first
  | (rw [Nat.testBit_or,Nat.testBit_two_pow];congr 1;apply decide_eq_decide.2;omega)
  | (rw [aF (show ¬ x=y by rintro rfl;omega),Bool.or_false])
theorem Xq (lo m x:Nat) (hx:x < 256) (hm:m<=256):dH (bQ 0 lo m) (bQ 1 lo m) (bQ 2 lo m) (bQ 3 lo m) x=(decide (lo<=x) && decide (x < m)):=by
 induction m with
 | zero =>
  unfold dH word;rcases four hx with h | h | h | h <;> rw [h] <;> simp [bQ]
 | succ m ih =>
  by_cases h:lo<=m
  ·
   simp only [Yr h];rw [Gy _ _ _ _ _ _ hx (by omega),ih (by omega)];by_cases e:x=m
   · subst e;simp [h]
   ·
    by_cases e2:x < m
    · simp [e,e2,Nat.lt_succ_of_lt e2]
    · simp [e,e2,show ¬ x < m + 1 by omega]
  ·
   simp only [LF _ lo (m + 1) (by omega)];have:¬ (lo<=x/\x < m + 1):=(by omega);have h2:dH 0 0 0 0 x=false:=(by unfold dH word;rcases four hx with h | h | h | h <;> rw [h] <;> simp);rw [h2];by_cases e:lo<=x
   · simp [e,show ¬ x < m + 1 by omega]
   · simp [e]
def fits (x:bO):Prop:=x.1 < P64/\x.2.1 < P64/\x.2.2.1 < P64/\x.2.2.2 < P64
def inS (x:bO) (b:Nat):Bool:=dH x.1 x.2.1 x.2.2.1 x.2.2.2 b
theorem AA {a b:Nat} (ha:a < P64) (hb:b < P64):a ||| b < P64:=Nat.or_lt_two_pow (n:=64) ha hb
theorem qU {x:bO} (h:fits x) (lo hi:Nat):fits (orR x lo hi) :=
 ⟨AA h.1 (eZ ..),AA h.2.1 (eZ ..),AA h.2.2.1 (eZ ..),AA h.2.2.2 (eZ ..)⟩
theorem Tz (x:bO) {lo hi b:Nat} (hb:b < 256) (hh:hi < 256):inS (orR x lo hi) b=(inS x b || (decide (lo<=b) && decide (b < hi + 1))):=by unfold inS orR;rw [GQ _ _ _ _ _ _ _ _ _ hb,Xq lo (hi + 1) b hb (by omega)]
theorem Wz {a b:Nat} (ha:a < P64) (hb:b < P64) (h:∀ i,i < 64->a.testBit i=b.testBit i):a=b:=by
 apply Nat.eq_of_testBit_eq;intro i;by_cases hi:i < 64
 · exact h i hi
 ·
  have key:∀ y,y < P64->y.testBit i=false:=fun y hy=>by apply Nat.testBit_lt_two_pow;exact aL (show y < 2 ^ 64 from hy) (Nat.pow_le_pow_right (by decide) (by omega))
  rw [key a ha,key b hb]
theorem Wm {x y:bO} (hx:fits x) (hy:fits y) (h:∀ b,b < 256->inS x b=inS y b):x=y:=by
 obtain ⟨a,b,c,d⟩:=x;obtain ⟨a',b',c',d'⟩:=y;have e1:a=a':=Wz hx.1 hy.1 fun i hi=>by have:=h (0 + i) (by omega);unfold inS at this;rw [B3l _ _ _ _ _ hi,B3l _ _ _ _ _ hi] at this;exact this
 have e2:b=b':=Wz hx.2.1 hy.2.1 fun i hi=>by have:=h (64 + i) (by omega);unfold inS at this;rw [B3m _ _ _ _ _ hi,B3m _ _ _ _ _ hi] at this;exact this
 have e3:c=c':=Wz hx.2.2.1 hy.2.2.1 fun i hi=>by have:=h (128 + i) (by omega);unfold inS at this;rw [word2 _ _ _ _ _ hi,word2 _ _ _ _ _ hi] at this;exact this
 have e4:d=d':=Wz hx.2.2.2 hy.2.2.2 fun i hi=>by have:=h (192 + i) (by omega);unfold inS at this;rw [B3n _ _ _ _ _ hi,B3n _ _ _ _ _ hi] at this;exact this
 rw [e1,e2,e3,e4]
theorem A2B (h:Nat->Bool):∀ f k b,k < b->b<=jL h f k->h b=true
 | 0,k,b=>fun h1 h2=>by unfold jL at h2;omega
 | f + 1,k,b=>fun h1 h2=>by
  by_cases g:k < 255/\h (k + 1)=true
  ·
   rw [Rb g.1 g.2] at h2;by_cases e:b=k + 1
   · rw [e];exact g.2
   · exact A2B h f (k + 1) b (by omega) h2
  · rw [Cg _ g] at h2;omega
def B9N (x:UInt8):Prop:=x.toNat=93\/isSp spC (x.toNat:Int)=false
theorem Zh {x:UInt8} (h:B9N x):(x.toNat:Int) ≠ 45:=by
 intro e;rcases h with h | h
 · omega
 · rw [e] at h;revert h;decide +kernel
theorem WF {U:ByteArray} {k lo:Nat} {x:UInt8} {r:List UInt8} (hl:lo < 256) (hA:At U k ((wrS spC lo).data.toList ++ (x :: r))) (hx:(x.toNat:Int) ≠ 45) :
  rowO U k=some ((lo,lo),k + (wrS spC lo).data.toList.length):=by
 have h1:=DW Qa (by omega) (by omega) hA.app.1;obtain ⟨d1,d2,-⟩:=hA.app.2.cons;have h2:sglO U k=some ((lo:Int),k + (wrS spC lo).data.toList.length):=by rw [uR h1,if_pos (show (strOfNums [(lo:Int)]).size=1 from rfl)];have:byt (strOfNums [(lo:Int)]) 0=lo:=Zz (by omega) (by omega);rw [this]
 rw [yL h2 (by rw [gG d1,d2];exact aN.2 hx),Int.toNat_natCast]
theorem B6u {U:ByteArray} {k lo hi:Nat} {r:List UInt8} (hl:lo<=hi) (hh:hi < 256) (hA:At U k ((wrS spC lo).data.toList ++ (45 :: ((wrS spC hi).data.toList ++ r)))) :
  rowO U k=some ((lo,hi),k + (wrS spC lo).data.toList.length + 1 + (wrS spC hi).data.toList.length):=by
 have h1:=DW Qa (by omega) (by omega) hA.app.1;obtain ⟨d1,d2,hB⟩:=hA.app.2.cons;have h2:sglO U k=some ((lo:Int),k + (wrS spC lo).data.toList.length):=by rw [uR h1,if_pos (show (strOfNums [(lo:Int)]).size=1 from rfl)];have:byt (strOfNums [(lo:Int)]) 0=lo:=Zz (by omega) (by omega);rw [this]
 have h3:=DW Qa (by omega) (by omega) hB.app.1;have h4:sglO U (k + (wrS spC lo).data.toList.length + 1)=some ((hi:Int),k + (wrS spC lo).data.toList.length + 1 + (wrS spC hi).data.toList.length):=by rw [uR h3,if_pos (show (strOfNums [(hi:Int)]).size=1 from rfl)];have:byt (strOfNums [(hi:Int)]) 0=hi:=Zz (by omega) (by omega);rw [this]
 rw [yM h2 (by rw [gG d1,d2];rfl),h4];simp only;rw [if_neg (by omega),Int.toNat_natCast,Int.toNat_natCast]
theorem FD (h:Nat->Bool):∀ f low,∃ x r,oK h f low ++ [93]=x :: r/\B9N x/\(oK h f low=[]\/isSp spC (x.toNat:Int)=false)
 | 0,low=>⟨93,[],rfl,.inl rfl,.inl rfl⟩
 | f + 1,low=>by
  by_cases h1:low < 256
  ·
   cases h2:h low with
   | false=>rw [Aq h1 h2];exact FD h f (low + 1)
   | true =>
    rw [Ls h1 h2];obtain ⟨x,l,hx,hs⟩:=Le spC Qa (c:=(low:Int)) (by omega) (by omega);refine ⟨x,_,by unfold dY;rw [hx];rfl,.inr hs,.inr hs⟩
  · rw [Ea h _ h1];exact ⟨93,[],rfl,.inl rfl,.inl rfl⟩
theorem EZ (h:Nat->Bool):∀ f low,256 < f + low->oK h f low=[]->∀ b,low<=b->b < 256->h b=false
 | 0,low=>fun hf _ b g1 g2=>by omega
 | f + 1,low=>fun hf he b g1 g2=>by
  have h1:low < 256:=by omega
  cases h2:h low with
  | false =>
   rw [Aq h1 h2] at he;by_cases e:b=low
   · rw [e];exact h2
   · exact EZ h f (low + 1) (by omega) he b (by omega) g2
  | true =>
   exfalso;rw [Ls h1 h2] at he;obtain ⟨x,l,hx,-⟩:=Le spC Qa (c:=(low:Int)) (by omega) (by omega);unfold dY at he;rw [hx] at he;cases he
theorem QX {x:UInt8} (h:isSp spC (x.toNat:Int)=false):(x.toNat:Int) ≠ 93:=by intro e;rw [e] at h;revert h;decide +kernel
theorem FC {U:ByteArray} (h:Nat->Bool):∀ f low x F k,256 < f + low->At U k (oK h f low ++ [93])->U.size < F + k->oK h f low ≠ []->fits x->(∀ b,b < 256->inS x b=(h b && decide (b < low))) →
  ∃ y,rwsF U F k x=some (y,k + (oK h f low).length)/\fits y/\∀ b,b < 256->inS y b=h b
 | 0,low,x,F,k=>fun hf hA hF hne=>absurd rfl hne
 | f + 1,low,x,F,k=>fun hf hA hF hne hx hin=>by
  have h1:low < 256:=by
   by_cases g:low < 256
   · exact g
   · exact absurd (Ea h _ g) hne
  cases h2:h low with
  | false =>
   rw [Aq h1 h2] at hA hne ⊢;refine FC h f (low + 1) x F k (by omega) hA hF hne hx fun b hb=>?_;rw [hin b hb];by_cases e:b=low
   · subst e;rw [h2];rfl
   · congr 1;rw [decide_eq_decide];omega
  | true =>
   rw [Ls h1 h2] at hA ⊢;have hge:=Kq h 255 low;have hle:=Fv h 255 low (by omega);have hrun:=A2B h 255 low;generalize jL h 255 low=hi at hA hge hle hrun ⊢;have hy:fits (orR x low hi):=qU hx low hi;have hiny:∀ b,b < 256->inS (orR x low hi) b=(h b && decide (b < hi + 1)):=fun b hb=>by
    rw [Tz x hb (by omega),hin b hb];by_cases g1:b < low
    · rw [aT g1,aT (by omega:b < hi + 1),aF (by omega:¬ low<=b)];simp
    ·
     rw [aF g1,aT (by omega:low<=b)];by_cases g2:b < hi + 1
     ·
      have hb2:h b=true:=by
       by_cases e:b=low
       · rw [e];exact h2
       · exact hrun b (by omega) (by omega)
      rw [aT g2,hb2];rfl
     · rw [aF g2];simp
   obtain ⟨z,r,hz,hsz,hcl⟩:=FD h f (hi + 1)
   -- the row, or the two rows, that are read
   have key:∀ F' k' x',U.size < F' + k'->At U k' (z :: r)->k'=k + (dY low hi).length->x'=orR x low hi →
     (if bG U (k':Int) 93=true then some (x',k') else rwsF U F' k' x')=(if oK h f (hi + 1)=[] then some (orR x low hi,k + (dY low hi).length) else rwsF U F' (k + (dY low hi).length) (orR x low hi)):=fun F' k' x' g1 g2 g3 g4=>by
    subst g3 g4;obtain ⟨d1,d2,-⟩:=g2.cons;by_cases e:oK h f (hi + 1)=[]
    · rw [if_pos e];rw [e,List.nil_append] at hz;injection hz with hz1 hz2;subst hz1;rw [if_pos (fP.2 ⟨d1,(show byt U _=93 from d2)⟩)]
    · rw [if_neg e];have hc:=hcl.resolve_left e;rw [if_neg];intro g;rw [fP,d2] at g;exact QX hc g.2
   have hend:At U (k + (dY low hi).length) (z :: r):=(by rw [List.append_assoc] at hA;rw [<- hz];exact hA.app.2);have main:∃ F',U.size < F' + (k + (dY low hi).length)/\rwsF U F k x=(if oK h f (hi + 1)=[] then some (orR x low hi,k + (dY low hi).length) else rwsF U F' (k + (dY low hi).length) (orR x low hi)):=by
    obtain ⟨x1,l1,hx1,hs1⟩:=Le spC Qa (c:=(low:Int)) (by omega) (by omega);have hl1:1<=(wrS spC low).data.toList.length:=(by rw [hx1];simp);by_cases e1:low + 1 < hi
    · have hA2:At U k ((wrS spC low).data.toList ++ (45 :: ((wrS spC hi).data.toList ++ (z :: r)))):=(by rw [List.append_assoc,hz] at hA;unfold dY at hA;rw [if_pos e1,if_pos (by omega)] at hA;simpa [List.append_assoc] using hA);have hlen:k + (wrS spC low).data.toList.length + 1 + (wrS spC hi).data.toList.length=k + (dY low hi).length:=(by unfold dY;rw [if_pos e1,if_pos (by omega)];simp only [List.length_append,List.length_cons,List.length_nil];omega);have hR:=B6u (by omega) (by omega) hA2;rw [hlen] at hR;refine ⟨F - 1,by omega,?_⟩;rw [Ic hF hR];exact key _ _ _ (by omega) hend rfl rfl
    ·
     by_cases e2:low < hi
     ·
      obtain rfl:hi=low + 1:=(by omega);have hA2:At U k ((wrS spC low).data.toList ++ ((wrS spC ((low + 1:Nat):Int)).data.toList ++ (z :: r))):=(by rw [List.append_assoc,hz] at hA;unfold dY at hA;rw [if_neg e1,if_pos e2] at hA;simpa [List.append_assoc] using hA);have hlen:k + (wrS spC low).data.toList.length + (wrS spC ((low + 1:Nat):Int)).data.toList.length=k + (dY low (low + 1)).length:=(by unfold dY;rw [if_neg e1,if_pos e2];simp only [List.length_append,List.length_nil];omega);obtain ⟨x2,l2,hx2,hs2⟩:=Le spC Qa (c:=((low + 1:Nat):Int)) (by omega) (by omega);have hl2:1<=(wrS spC ((low + 1:Nat):Int)).data.toList.length:=(by rw [hx2];simp);have hR1:rowO U k=some ((low,low),k + (wrS spC low).data.toList.length):=(by have hA3:=hA2;rw [hx2] at hA3;exact WF h1 hA3 (Zh (.inr hs2)));have hB:=hA2.app.2;have hR2:=WF (by omega) hB (Zh hsz);rw [hlen] at hR2;refine ⟨F - 1 - 1,by omega,?_⟩;rw [Ic hF hR1];have hB2:=hB;rw [hx2] at hB2;obtain ⟨d1,d2,-⟩:=(show At U _ (x2 :: (l2 ++ (z :: r))) from hB2).cons;rw [if_neg (by rw [fP,d2];exact fun g=>QX hs2 g.2),Ic (by omega) hR2];refine key _ _ _ (by omega) hend rfl ?_;apply Wm (qU (qU hx _ _) _ _) hy;intro b hb;rw [Tz _ hb (by omega),Tz _ hb (by omega),Tz _ hb (by omega),Bool.or_assoc]
      congr 1
      rw [Bool.eq_iff_iff];simp only [Bool.or_eq_true,Bool.and_eq_true,decide_eq_true_eq];omega
     · obtain rfl:hi=low:=(by omega);have hA2:At U k ((wrS spC hi).data.toList ++ (z :: r)):=(by rw [List.append_assoc,hz] at hA;unfold dY at hA;rw [if_neg e1,if_neg e2] at hA;simpa [List.append_assoc] using hA);have hlen:k + (wrS spC hi).data.toList.length=k + (dY hi hi).length:=(by unfold dY;rw [if_neg e1,if_neg e2];simp);have hR:=WF h1 hA2 (Zh hsz);rw [hlen] at hR;refine ⟨F - 1,by omega,?_⟩;rw [Ic hF hR];exact key _ _ _ (by omega) hend rfl rfl
   obtain ⟨F',hF',hm⟩:=main;by_cases e:oK h f (hi + 1)=[]
   ·
    rw [if_pos e] at hm;refine ⟨orR x low hi,by rw [hm,e];simp,hy,fun b hb=>?_⟩;rw [hiny b hb];by_cases g:b < hi + 1
    · rw [aT g,Bool.and_true]
    · rw [aF g,Bool.and_false,EZ h f (hi + 1) (by omega) e b (by omega) hb]
   · rw [if_neg e] at hm;obtain ⟨y,q1,q2,q3⟩:=FC h f (hi + 1) (orR x low hi) F' (k + (dY low hi).length) (by omega) (by rw [hz];exact hend) hF' e hy hiny;exact ⟨y,by rw [hm,q1,List.length_append,Nat.add_assoc],q2,q3⟩
abbrev set0:bO:=(0,0,0,0)
def B9v (x:bO):bO:=(dU x.1,dU x.2.1,dU x.2.2.1,dU x.2.2.2)
def NJ (o:Bool) (x:bO):bO:=if o=true then B9v x else x
theorem A7H {x:bO} (h:fits x) (o:Bool):fits (NJ o x):=by
 cases o
 · exact h
 · exact ⟨iV _,iV _,iV _,iV _⟩
theorem Af {s:ByteArray}:∀ f k x y m,fits x->rwsF s f k x=some (y,m)->fits y/\k < m/\m < s.size/\byt s m=93
 | 0,k,x,y,m=>fun hx h=>by cases h
 | f + 1,k,x,y,m=>fun hx h=>by
  rw [rwsF.eq_2] at h
  cases hr:rowO s k with
  | none=>rw [hr] at h;cases h
  | some p =>
   obtain ⟨⟨lo,hi⟩,n⟩:=p;rw [hr] at h;simp only at h;have hb:=xW hr;split at h
   · rename_i g;injection h with h;injection h with h1 h2;subst h1 h2;have:=fP.1 g;exact ⟨qU hx lo hi,by omega,this.1,this.2⟩
   · have:=Af f n _ y m (qU hx lo hi) h;exact ⟨this.1,by omega,this.2.2⟩
def FT (o:Bool):Option (bO × Nat)->Option (bO × Nat)
 | none=>none
 | some (x,m)=>if NJ o x=set0 then none else some (NJ o x,m + 1)
def clsO (s:ByteArray) (i:Int):Option (bO × Nat) :=
 if bG s i 91=true then FT (bG s (i + 1) 94) (rwsF s (s.size + 1) (i.toNat + 1 + (if bG s (i + 1) 94=true then 1 else 0)) set0) else none
def Sw:Option (bO × Nat)->Value
 | none=>.tuple #[.agg #[.int .u64 0,.int .u64 0,.int .u64 0,.int .u64 0],.int .i64 0,.bool false]
 | some ((a,b,c,d),m)=>.tuple #[.agg #[.int .u64 (a:Int),.int .u64 (b:Int),.int .u64 (c:Int),.int .u64 (d:Int)],.int .i64 (m:Int),.bool true]
theorem nD:fits set0:=⟨by decide,by decide,by decide,by decide⟩
theorem Eb {s:ByteArray} {i:Nat} {x:bO} {m:Nat} (h:clsO s (i:Int)=some (x,m)):i < m/\m<=s.size/\byt s (m - 1)=93/\fits x/\x ≠ set0:=by
 unfold clsO at h;split at h
 ·
  generalize bG s ((i:Int) + 1) 94=o at h
  cases hr:rwsF s (s.size + 1) ((i:Int).toNat + 1 + (if o=true then 1 else 0)) set0 with
  | none=>rw [hr] at h;cases h
  | some p =>
   obtain ⟨y,n⟩:=p;rw [hr] at h;have:=Af _ _ _ _ _ nD hr;rw [Int.toNat_natCast] at this;simp only [FT] at h;split at h
   · cases h
   · rename_i g;injection h with h;injection h with h1 h2;subst h1 h2;exact ⟨by omega,by omega,by rw [Nat.add_sub_cancel];exact this.2.2.2,A7H this.1 o,g⟩
 · cases h
theorem Jd (h:Nat->Bool):(dF h).data.toList=91 :: (oK h 257 0 ++ [93]):=by show ([91] ++ oK h 257 0 ++ [93]).toArray.toList=_;simp
theorem YX (h:Nat->Bool):(dF h).size=(oK h 257 0).length + 2:=by
 have:(dF h).data.toList.length=(dF h).size:=by simp
 rw [<- this,Jd,List.length_cons,List.length_append];rfl
theorem Sy {U:ByteArray} {x:bO} {a:Nat} (hx:fits x) (hA:At U a (dF (inS x)).data.toList):clsO U (a:Int)=if x=set0 then none else some (x,a + (dF (inS x)).size):=by
 rw [Jd] at hA;obtain ⟨b1,b2,hB⟩:=hA.cons;obtain ⟨z,r,hz,hs,hc⟩:=FD (inS x) 257 0;have hz1:=hB;rw [hz] at hz1;obtain ⟨c1,c2,-⟩:=hz1.cons;have h94:bG U ((a:Int) + 1) 94=false:=by
  rw [show ((a:Int) + 1)=((a + 1:Nat):Int) by omega,gG c1,c2];rw [aN];intro e;rcases hs with g | g
  · omega
  · rw [e] at g;revert g;decide +kernel
 unfold clsO;rw [if_pos (fP.2 ⟨b1,(show byt U a=91 from b2)⟩),h94,Int.toNat_natCast];simp only [Bool.false_eq_true,if_false,Nat.add_zero];have hzero:inS set0=fun _=>false:=by
  funext b
  show (word 0 0 0 0 b).testBit (b % 64)=false;unfold word;split <;> simp
 by_cases e:oK (inS x) 257 0=[]
 ·
  have hn:=EZ (inS x) 257 0 (by omega) e;have hx0:x=set0:=Wm hx nD fun b hb=>by rw [hn b (by omega) hb,hzero]
  rw [if_pos hx0];rw [e,List.nil_append] at hB;obtain ⟨d1,d2,-⟩:=hB.cons;rw [xX (LC (fP.2 ⟨d1,(show byt U (a + 1)=93 from d2)⟩))];rfl
 ·
  obtain ⟨y,g1,g2,g3⟩:=FC (U:=U) (inS x) 257 0 set0 (U.size + 1) (a + 1) (by omega) hB (by omega) e nD (fun b hb=>by rw [hzero];simp);have hy:y=x:=Wm g2 hx g3;subst hy;have hne:y ≠ set0:=by
   rintro rfl;apply e;have hall:∀ f low,oK (inS set0) f low=[]:=fun f=>by
    induction f with
    | zero=>intro low;rfl
    | succ f ih =>
     intro low;by_cases g:low < 256
     · rw [Aq g (by rw [hzero])];exact ih _
     · exact Ea _ _ g
   exact hall _ _
  rw [if_neg hne,g1];simp only [FT,NJ,Bool.false_eq_true,if_false];rw [if_neg hne,YX]
  congr 2
  omega
def Cs (c:Int):Bool:=(decide (97<=c) && decide (c<=122)) || (decide (65<=c) && decide (c<=90))
def vY (c:Int):Bool:=Cs c || (decide (48<=c) && decide (c<=57)) || c == 95
def runB (P:Int->Bool) (s:ByteArray):Nat->Nat->Nat
 | 0,_=>0
 | f + 1,k=>if k < s.size/\P (byt s k)=true then 1 + runB P s f (k + 1) else 0
theorem Vw {P:Int->Bool} {s:ByteArray}:∀ (n f k:Nat),n<=f->(∀ j,j < n->k + j < s.size/\P (byt s (k + j))=true)->(n < f->¬ (k + n < s.size/\P (byt s (k + n))=true))->runB P s f k=n
 | 0,f,k,h1,h2,h3=>by
  cases f with
  | zero=>rfl
  | succ f=>unfold runB;rw [if_neg (show ¬ (k < s.size/\P (byt s k)=true) from h3 (by omega))]
 | n + 1,f,k,h1,h2,h3=>by
  obtain ⟨g,rfl⟩:∃ g,f=g + 1:=⟨f - 1,by omega⟩;unfold runB
  rw [if_pos (show k < s.size/\P (byt s k)=true from h2 0 (by omega)),Vw n g (k + 1) (by omega) (fun j hj=>by have:=h2 (j + 1) (by omega);rw [show k + 1 + j=k + (j + 1) by omega];exact this)
   (fun hn=>by have:=h3 (by omega);rw [show k + 1 + n=k + (n + 1) by omega];exact this)]
  omega
theorem LV {P:Int->Bool} {s:ByteArray}:∀ (f k j:Nat),j < runB P s f k->k + j < s.size/\P (byt s (k + j))=true
 | 0,k,j,h=>by unfold runB at h;omega
 | f + 1,k,j,h=>by
  unfold runB at h;split at h
  ·
   rename_i g
   cases j with
   | zero=>exact g
   | succ j=>have:=LV (P:=P) (s:=s) f (k + 1) j (by omega);rw [show k + (j + 1)=k + 1 + j by omega];exact this
  · omega
def nmO (s:ByteArray) (k:Nat):Nat:=runB vY s s.size k
def ntO (s:ByteArray) (k:Nat):Nat:=runB (fun c=>c != 10) s s.size k
def yQ (c:Int):Bool:=c == 32 || c == 9 || c == 10
def skF (s:ByteArray):Nat->Nat->Nat
 | 0,k=>k
 | f + 1,k=>if k < s.size then (if yQ (byt s k)=true then skF s f (k + 1) else if byt s k=35 then skF s f (k + ntO s k) else k) else k
def skO (s:ByteArray) (k:Nat):Nat:=skF s (s.size + 1) k
theorem oP {s:ByteArray} {f k:Nat} (h:¬ k < s.size):skF s f k=k:=by
 cases f
 · rfl
 · unfold skF;rw [if_neg h]
theorem rZ {s:ByteArray} {f k:Nat} (hf:s.size < f + k) (hk:k < s.size) (h:yQ (byt s k)=true):skF s f k=skF s (f - 1) (k + 1):=by obtain ⟨g,rfl⟩:∃ g,f=g + 1:=⟨f - 1,by omega⟩;rw [skF.eq_2,if_pos hk,if_pos h];rfl
theorem Wn {s:ByteArray} {f k:Nat} (hf:s.size < f + k) (hk:k < s.size) (h:byt s k=35):skF s f k=skF s (f - 1) (k + ntO s k):=by obtain ⟨g,rfl⟩:∃ g,f=g + 1:=⟨f - 1,by omega⟩;rw [skF.eq_2,if_pos hk,if_neg (by rw [h];decide),if_pos h];rfl
theorem Gb {s:ByteArray} {f k:Nat} (h:yQ (byt s k)=false) (h2:byt s k ≠ 35):skF s f k=k:=by
 cases f
 · rfl
 ·
  unfold skF;split
  · rw [if_neg (by rw [h];decide)];try rw [if_neg h2]
  · rfl
theorem Us {s:ByteArray} {k:Nat} (hk:k < s.size) (h:byt s k=35):1<=ntO s k:=by unfold ntO;obtain ⟨g,hg⟩:∃ g,s.size=g + 1:=⟨s.size - 1,by omega⟩;rw [show runB (fun c=>c != 10) s s.size k=runB (fun c=>c != 10) s (g + 1) k by rw [hg]];unfold runB;rw [if_pos ⟨hk,by rw [h];rfl⟩];omega
theorem B8K {s:ByteArray} {k:Nat} (hk:k<=s.size):k + ntO s k<=s.size:=by
 unfold ntO;by_cases h:runB (fun c=>c != 10) s s.size k=0
 · omega
 · have:=(LV (P:=fun c=>c != 10) (s:=s) s.size k (runB (fun c=>c != 10) s s.size k - 1) (by omega)).1;omega
theorem A3i {s:ByteArray} {k:Nat} (hk:k<=s.size):k + nmO s k<=s.size:=by
 unfold nmO;by_cases h:runB vY s s.size k=0
 · omega
 · have:=(LV (P:=vY) (s:=s) s.size k (runB vY s s.size k - 1) (by omega)).1;omega
def sgB (c:Int):Bool:=c == 59 || c == 61 || c == 47 || c == 38 || c == 33 || c == 126 || c == 42 || c == 43 || c == 63 || c == 46 || c == 40 || c == 41
def sgO (s:ByteArray) (k:Nat):Nat :=
 if byt s k=58 then (if bG s ((k + 1:Nat):Int) 58=true then 2 else 1) else if sgB (byt s k)=true then 1 else 0
theorem A5d (c:Int) (w:World):Calls Tryz.prog 121 #[.int .u8 c] w fun e w'=>e=.returned (.bool (Cs c))/\w'=w:=by
 have HS:=aH (show Cs c=((decide (97<=c) && decide (c<=122)) || (decide (65<=c) && decide (c<=90))) from rfl);by_cases g0:97<=c <;> by_cases g1:c<=122 <;> by_cases g2:65<=c <;> by_cases g3:c<=90
 all_goals first
  | (exfalso;omega)
  | (go_enter Tryz.func121,Tryz.ntmps121
     go_wp2;go_ret
     exact ⟨aJ (by rw [HS.o];simp <;> omega),rfl⟩)
def kD (s:ByteArray) (p:Nat):ByteArray:=s.extract p s.size
theorem Ny (s:ByteArray) {p:Nat} (hp:p<=s.size):(kD s p).size=s.size - p:=by unfold kD;rw [ByteArray.size_extract];omega
theorem Fh (s:ByteArray) (p j:Nat):byt (kD s p) j=byt s (p + j):=by unfold kD;rw [<- JH];unfold byt;rw [show (ofL (s.data.toList.drop p)).data.toList=s.data.toList.drop p by show (s.data.toList.drop p).toArray.toList=_;simp];rw [List.getD_eq_getElem?_getD,List.getD_eq_getElem?_getD,List.getElem?_drop]
theorem B9s {s:ByteArray} {p n:Nat} (hp:p<=s.size) (hn:n<=(kD s p).size) (h:∀ j,j < n->vY (byt (kD s p) j)=true) (h2:n < (kD s p).size->vY (byt (kD s p) n)=false):nmO s p=n:=by rw [Ny s hp] at hn h2;refine Vw n s.size p (by omega) (fun j hj=>⟨by omega,by rw [<- Fh];exact h j hj⟩) (fun hlt=>?_);rintro ⟨g1,g2⟩;have:=h2 (by omega);rw [Fh,g2] at this;cases this
theorem A5q {s:ByteArray} {p n:Nat} (hp:p<=s.size) (hn:p + n<=s.size) (h:∀ j,j < n->byt s (p + j) ≠ 10) (h2:p + n < s.size->byt s (p + n)=10):ntO s p=n:=by refine Vw n s.size p (by omega) (fun j hj=>⟨by omega,by simp [h j hj]⟩) (fun hlt=>?_);rintro ⟨g1,g2⟩;rw [h2 g1] at g2;revert g2;decide
theorem B5U (v:ByteArray) (hv:v.size<=1000000) (w:World) :
  Calls Tryz.prog 122 #[.string v] w fun e w'=>(∃ n:Nat,e=.returned (.int .i64 (n:Int))/\n<=v.size/\(∀ j,j < n->vY (byt v j)=true)/\(n < v.size->vY (byt v n)=false))/\w'=w:=by
 go_enter Tryz.func122,Tryz.ntmps122;go_wp2
 go_loop [3] (fun i=>∃ k:Nat,k<=v.size/\i=.int .i64 k/\aQ (∀ j,j < k->vY (byt v j)=true)) (fun i=>v.size - (intOf i).toNat)
 case atStart=>exact ⟨0,Nat.zero_le _,rfl,aH (fun j h=>by omega)⟩
 case round =>
  obtain ⟨k,hk,rfl,HA⟩:=hrel;by_cases hlt:k < v.size
  ·
   obtain ⟨x,hx⟩:∃ x:Int,(v[k].toNat:Int)=x:=⟨_,rfl⟩;have HX:=aH (show byt v k=x by rw [dI hlt,hx]);have HL:=aH (fun W=>A5d x W);have HI:=aH (show vY x=(Cs x || (decide (48<=x) && decide (x<=57)) || x == 95) from rfl);obtain ⟨b,hb⟩:∃ b,Cs x=b:=⟨_,rfl⟩;rw [hb] at HI HL;clear hb;obtain ⟨q,hq⟩:∃ q,(x == 95)=q:=⟨_,rfl⟩;have HQ:=aH hq;by_cases g0:48<=x <;> by_cases g1:x<=57 <;> cases b <;> cases q;all_goals try (exfalso;omega)
   all_goals first
    | (have HN:=aH (show vY x=true by rw [HI.o,HQ.o];simp <;> omega)
       have HA1:aQ (∀ j,j < k + 1->vY (byt v j)=true):=aH (fun j hj=>by
        by_cases e:j=k
        · rw [e,HX.o];exact HN.o
        · exact HA.o j (by omega))
       go_wp2_with fail;refine (HL.o _).mono ?_;rintro e w1 ⟨rfl,rfl⟩;go_wp2
       go_round
       case rel=>exact ⟨k + 1,by omega,by go_num,HA1⟩
       case measure=>simp [intOf];omega)
    | (have HN:=aH (show vY x=false by rw [HI.o,HQ.o];simp <;> omega)
       go_wp2_with fail;refine (HL.o _).mono ?_;rintro e w1 ⟨rfl,rfl⟩;go_wp2;go_ret
       exact ⟨⟨k,rfl,hk,HA.o,fun _=>by rw [HX.o];exact HN.o⟩,rfl⟩)
  · obtain rfl:k=v.size:=(by omega);go_wp2;go_ret;exact ⟨⟨v.size,rfl,Nat.le_refl _,HA.o,fun h=>by omega⟩,rfl⟩
theorem A7M {v:ByteArray} {n:Nat} (h:Lib.indexByte v.data.toList 10=(n:Int)):n < v.size/\byt v n=10/\∀ j,j < n->byt v j ≠ 10:=by
 obtain ⟨h1,h2⟩:=Lib.indexByte_some h;have hlt:=(aS.1 h1).1;refine ⟨by simpa using hlt,?_,fun j hj hb=>?_⟩
 · unfold byt;rw [List.getD_eq_getElem?_getD,h1];rfl
 ·
  have hj':j < v.data.toList.length:=by omega
  refine h2 j hj ?_;rw [aG hj']
  congr 1
  apply UInt8.toNat.inj;have h3:(v.data.toList[j].toNat:Int)=10:=by rw [<- hb];unfold byt;rw [List.getD_eq_getElem?_getD,aG hj'];rfl
  show _=10;omega
theorem B0L {v:ByteArray} (h:Lib.indexByte v.data.toList 10=-1):∀ j,j < v.size->byt v j ≠ 10:=fun j hj hb=>by
 have hj':j < v.data.toList.length:=by simpa using hj
 refine Lib.indexByte_none h j ?_;rw [aG hj']
 congr 1
 apply UInt8.toNat.inj;have h3:(v.data.toList[j].toNat:Int)=10:=by rw [<- hb];unfold byt;rw [List.getD_eq_getElem?_getD,aG hj'];rfl
 show _=10;omega
theorem B0p (s:ByteArray) (hs:s.size<=1000000) (p:Nat) (hp:p<=s.size) (w:World) :
  Calls Tryz.prog 120 #[.string (kD s p)] w fun e w'=>e=.returned (.int .i64 (ntO s p:Int))/\w'=w:=by
 have hr:=Ny s hp;have hge:=Lib.indexByte_ge (kD s p).data.toList (10:Int).toNat.toUInt8;obtain ⟨x,hx⟩:∃ x,Lib.indexByte (kD s p).data.toList (10:Int).toNat.toUInt8=x:=⟨_,rfl⟩;rw [hx] at hge;have HX:=aH hx;by_cases g:0<=x
 · obtain ⟨n,rfl⟩:∃ n:Nat,x=(n:Int):=⟨x.toNat,by omega⟩;obtain ⟨h1,h2,h3⟩:=A7M hx;have HE:=aH (show ntO s p=n from A5q hp (by omega) (fun j hj=>by rw [<- Fh];exact h3 j hj) (fun _=>by rw [<- Fh];exact h2));clear hx h1 h2 h3 hge;go_enter Tryz.func120,Tryz.ntmps120;go_wp2_with fail;refine (Tryz.strings_IndexByte (kD s p) 10 _).mono ?_;rintro e w' ⟨rfl,rfl⟩;rw [HX.o];go_wp2;go_ret;exact ⟨eF (by rw [HE.o]),rfl⟩
 ·
  obtain rfl:x=-1:=by omega
  have h3:=B0L hx;have HE:=aH (show ntO s p=(kD s p).size from A5q hp (by omega) (fun j hj=>by rw [<- Fh];exact h3 j hj) (fun h=>by omega));clear hx h3 hge g;go_enter Tryz.func120,Tryz.ntmps120;go_wp2_with fail;refine (Tryz.strings_IndexByte (kD s p) 10 _).mono ?_;rintro e w' ⟨rfl,rfl⟩;rw [HX.o];go_wp2;go_ret;exact ⟨eF (by rw [HE.o,hr]),rfl⟩
theorem MF (s:ByteArray) (hs:s.size<=1000000) (a:Nat) (ha:(a:Int)<=9223372036854775807) (w:World) :
  Calls Tryz.prog 96 #[.string s,.int .i64 (a:Int)] w fun e w'=>e=.returned (.int .i64 (skO s a:Int))/\w'=w:=by
 have HT0:=aH (show skF s (s.size + 1) a=skO s a/\s.size < s.size + 1 + a from ⟨rfl,by omega⟩);obtain ⟨o,ho⟩:∃ o,skO s a=o:=⟨_,rfl⟩;rw [ho] at HT0 ⊢;clear ho;go_enter Tryz.func96,Tryz.ntmps96;go_wp2
 go_loop [1] (fun i=>∃ k f:Nat,i=.int .i64 (k:Int)/\(k:Int)<=9223372036854775807/\aQ (skF s f k=o/\s.size < f + k)) (fun i=>s.size - (intOf i).toNat)
 case atStart=>exact ⟨a,s.size + 1,rfl,ha,HT0⟩
 case round =>
  obtain ⟨k,f,rfl,hk,HT⟩:=hrel;by_cases hlt:(k:Int) < s.size
  ·
   have hk1:k < s.size:=(by omega);obtain ⟨c,hc⟩:∃ c:Int,(s[k].toNat:Int)=c:=⟨_,rfl⟩;have hbc:byt s k=c:=(by rw [dI hk1,hc]);by_cases h32:c=32
   ·
    subst h32;have HT2:=aH (show skF s (f - 1) (k + 1)=o/\s.size < (f - 1) + (k + 1) from ⟨by rw [<- HT.o.1];exact (rZ HT.o.2 hk1 (by rw [hbc];rfl)).symm,by have:=HT.o.2;omega⟩);clear HT hbc;go_wp2
    go_round
    case rel=>exact ⟨k + 1,f - 1,by go_num,by omega,HT2⟩
    case measure=>simp [intOf];omega
   have e32:(c == 32)=false:=aN.2 h32;by_cases h9:c=9
   ·
    subst h9;have HT2:=aH (show skF s (f - 1) (k + 1)=o/\s.size < (f - 1) + (k + 1) from ⟨by rw [<- HT.o.1];exact (rZ HT.o.2 hk1 (by rw [hbc];rfl)).symm,by have:=HT.o.2;omega⟩);clear HT hbc;go_wp2
    go_round
    case rel=>exact ⟨k + 1,f - 1,by go_num,by omega,HT2⟩
    case measure=>simp [intOf];omega
   have e9:(c == 9)=false:=aN.2 h9;by_cases h10:c=10
   ·
    subst h10;have HT2:=aH (show skF s (f - 1) (k + 1)=o/\s.size < (f - 1) + (k + 1) from ⟨by rw [<- HT.o.1];exact (rZ HT.o.2 hk1 (by rw [hbc];rfl)).symm,by have:=HT.o.2;omega⟩);clear HT hbc;go_wp2
    go_round
    case rel=>exact ⟨k + 1,f - 1,by go_num,by omega,HT2⟩
    case measure=>simp [intOf];omega
   have e10:(c == 10)=false:=aN.2 h10;by_cases h35:c=35
   ·
    subst h35;have hn1:=Us hk1 hbc;have hn2:=B8K (s:=s) (k:=k) (by omega);have HL:=aH (fun W=>B0p s hs k (by omega) W);have HT2:=aH (show skF s (f - 1) (k + ntO s k)=o/\s.size < (f - 1) + (k + ntO s k) from ⟨by rw [<- HT.o.1];exact (Wn HT.o.2 hk1 hbc).symm,by have:=HT.o.2;omega⟩);generalize ntO s k=q at *;clear HT hbc;have hks:(k:Int)<=s.size:=(by omega);go_wp2_with fail;refine (HL.o _).mono ?_;rintro e w1 ⟨rfl,rfl⟩;go_wp2
    go_round
    case rel=>exact ⟨k + q,f - 1,by go_num,by omega,HT2⟩
    case measure=>simp [intOf];omega
   have e35:(c == 35)=false:=aN.2 h35;have HE:=aH (show o=k by rw [<- HT.o.1];exact Gb (by rw [hbc];unfold yQ;rw [e32,e9,e10];rfl) (by rw [hbc];exact h35));clear HT hbc;go_wp2;go_ret;exact ⟨eF (by rw [HE.o]),rfl⟩
  · have HE:=aH (show o=k by rw [<- HT.o.1];exact oP (by omega));clear HT;go_wp2;go_ret;exact ⟨eF (by rw [HE.o]),rfl⟩
theorem A8L (s:ByteArray) (p:Nat):(kD s p).data.toList=s.data.toList.drop p:=by unfold kD;rw [<- JH];show (s.data.toList.drop p).toArray.toList=_;simp
theorem Sm {s:ByteArray} {p:Nat} (hp:p < s.size):∃ x r,s.data.toList.drop p=x :: r/\(x.toNat:Int)=byt s p/\r=s.data.toList.drop (p + 1):=by
 have h':p < s.data.toList.length:=by simpa using hp
 refine ⟨s.data.toList[p],s.data.toList.drop (p + 1),List.drop_eq_getElem_cons h',?_,rfl⟩;unfold byt;rw [List.getD_eq_getElem?_getD,aG h'];rfl
theorem A6i {x:UInt8} {n:Nat} (hn:n < 256) (h:(x.toNat:Int)=n):x=UInt8.ofNat n:=by apply UInt8.toNat.inj;rw [UInt8.toNat_ofNat'];omega
theorem A4v {s:ByteArray} {p:Nat} (hp:p < s.size) (h:byt s p=58):Lib.hasPrefix (kD s p).data.toList [58,58]=bG s ((p + 1:Nat):Int) 58:=by
 rw [A8L];obtain ⟨x,r,e,hx,hr⟩:=Sm hp;obtain rfl:x=58:=A6i (n:=58) (by omega) (by rw [hx,h];rfl);rw [e];by_cases g:p + 1 < s.size
 ·
  obtain ⟨y,r2,e2,hy,-⟩:=Sm g;rw [hr,e2,gG g,<- hy];by_cases h58:y=58
  · subst h58;simp [Lib.hasPrefix,List.isPrefixOf]
  · have:(y.toNat:Int) ≠ 58:=fun q=>h58 (A6i (n:=58) (by omega) q);rw [aN.2 this];simp [Lib.hasPrefix,List.isPrefixOf];exact fun q=>h58 q.symm
 · rw [jR g,hr,List.drop_of_length_le (by simp;omega)];simp [Lib.hasPrefix,List.isPrefixOf]
theorem TP {s:ByteArray} {p:Nat} (h:byt s p=58):sgO s p=if bG s ((p + 1:Nat):Int) 58=true then 2 else 1:=by unfold sgO;rw [if_pos h]
theorem fC {s:ByteArray} {p:Nat} (h:byt s p ≠ 58) (h2:sgB (byt s p)=true):sgO s p=1:=by unfold sgO;rw [if_neg h,if_pos h2]
theorem A4g {s:ByteArray} {p:Nat} (h:byt s p ≠ 58) (h2:sgB (byt s p)=false):sgO s p=0:=by unfold sgO;rw [if_neg h,h2];rfl
theorem MC {s:ByteArray} {p:Nat} (h:p < s.size):p + sgO s p<=s.size:=by
 unfold sgO;split
 ·
  split
  · rename_i g;have:=(fP.1 g).1;omega
  · omega
 · split <;> omega
theorem B6e (s:ByteArray) (hs:s.size<=1000000) (p:Nat) (hp:p < s.size) (w:World) :
  Calls Tryz.prog 125 #[.string (kD s p)] w fun e w'=>e=.returned (.int .i64 (sgO s p:Int))/\w'=w:=by
 have hr:=Ny s (p:=p) (by omega);have h0:0 < (kD s p).size:=by omega
 obtain ⟨c,hc⟩:∃ c:Int,((kD s p)[0].toNat:Int)=c:=⟨_,rfl⟩;have hbc:byt s p=c:=by have:=dI h0;rw [Fh,hc] at this;exact this
 by_cases h58:c=58
 ·
  subst h58;have HE:=aH (TP hbc);have HP:=aH (A4v hp hbc);obtain ⟨b,hb⟩:∃ b,bG s ((p + 1:Nat):Int) 58=b:=⟨_,rfl⟩;rw [hb] at HE HP;clear hb hbc hr;generalize kD s p=v at *
  cases b
  all_goals
   go_enter Tryz.func125,Tryz.ntmps125;go_wp2_with fail;refine (Tryz.strings_HasPrefix v ⟨#[58,58]⟩ _).mono ?_;rintro e w' ⟨rfl,rfl⟩;rw [show Lib.hasPrefix v.data.toList (⟨#[58,58]⟩:ByteArray).data.toList=_ from HP.o];go_wp2;go_ret;exact ⟨eF (by rw [HE.o];rfl),rfl⟩
 have e58:(c == 58)=false:=aN.2 h58;by_cases h59:c=59
 · subst h59;have HE:=aH (fC (s:=s) (p:=p) (by rw [hbc];decide) (by rw [hbc];decide));clear hbc;clear hr;generalize kD s p=v at *;go_enter Tryz.func125,Tryz.ntmps125;go_wp2;go_ret;exact ⟨eF (by rw [HE.o];rfl),rfl⟩
 have e59:(c == 59)=false:=aN.2 h59;by_cases h61:c=61
 · subst h61;have HE:=aH (fC (s:=s) (p:=p) (by rw [hbc];decide) (by rw [hbc];decide));clear hbc;clear hr;generalize kD s p=v at *;go_enter Tryz.func125,Tryz.ntmps125;go_wp2;go_ret;exact ⟨eF (by rw [HE.o];rfl),rfl⟩
 have e61:(c == 61)=false:=aN.2 h61;by_cases h47:c=47
 · subst h47;have HE:=aH (fC (s:=s) (p:=p) (by rw [hbc];decide) (by rw [hbc];decide));clear hbc;clear hr;generalize kD s p=v at *;go_enter Tryz.func125,Tryz.ntmps125;go_wp2;go_ret;exact ⟨eF (by rw [HE.o];rfl),rfl⟩
 have e47:(c == 47)=false:=aN.2 h47;by_cases h38:c=38
 · subst h38;have HE:=aH (fC (s:=s) (p:=p) (by rw [hbc];decide) (by rw [hbc];decide));clear hbc;clear hr;generalize kD s p=v at *;go_enter Tryz.func125,Tryz.ntmps125;go_wp2;go_ret;exact ⟨eF (by rw [HE.o];rfl),rfl⟩
 have e38:(c == 38)=false:=aN.2 h38;by_cases h33:c=33
 · subst h33;have HE:=aH (fC (s:=s) (p:=p) (by rw [hbc];decide) (by rw [hbc];decide));clear hbc;clear hr;generalize kD s p=v at *;go_enter Tryz.func125,Tryz.ntmps125;go_wp2;go_ret;exact ⟨eF (by rw [HE.o];rfl),rfl⟩
 have e33:(c == 33)=false:=aN.2 h33;by_cases h126:c=126
 · subst h126;have HE:=aH (fC (s:=s) (p:=p) (by rw [hbc];decide) (by rw [hbc];decide));clear hbc;clear hr;generalize kD s p=v at *;go_enter Tryz.func125,Tryz.ntmps125;go_wp2;go_ret;exact ⟨eF (by rw [HE.o];rfl),rfl⟩
 have e126:(c == 126)=false:=aN.2 h126;by_cases h42:c=42
 · subst h42;have HE:=aH (fC (s:=s) (p:=p) (by rw [hbc];decide) (by rw [hbc];decide));clear hbc;clear hr;generalize kD s p=v at *;go_enter Tryz.func125,Tryz.ntmps125;go_wp2;go_ret;exact ⟨eF (by rw [HE.o];rfl),rfl⟩
 have e42:(c == 42)=false:=aN.2 h42;by_cases h43:c=43
 · subst h43;have HE:=aH (fC (s:=s) (p:=p) (by rw [hbc];decide) (by rw [hbc];decide));clear hbc;clear hr;generalize kD s p=v at *;go_enter Tryz.func125,Tryz.ntmps125;go_wp2;go_ret;exact ⟨eF (by rw [HE.o];rfl),rfl⟩
 have e43:(c == 43)=false:=aN.2 h43;by_cases h63:c=63
 · subst h63;have HE:=aH (fC (s:=s) (p:=p) (by rw [hbc];decide) (by rw [hbc];decide));clear hbc;clear hr;generalize kD s p=v at *;go_enter Tryz.func125,Tryz.ntmps125;go_wp2;go_ret;exact ⟨eF (by rw [HE.o];rfl),rfl⟩
 have e63:(c == 63)=false:=aN.2 h63;by_cases h46:c=46
 · subst h46;have HE:=aH (fC (s:=s) (p:=p) (by rw [hbc];decide) (by rw [hbc];decide));clear hbc;clear hr;generalize kD s p=v at *;go_enter Tryz.func125,Tryz.ntmps125;go_wp2;go_ret;exact ⟨eF (by rw [HE.o];rfl),rfl⟩
 have e46:(c == 46)=false:=aN.2 h46;by_cases h40:c=40
 · subst h40;have HE:=aH (fC (s:=s) (p:=p) (by rw [hbc];decide) (by rw [hbc];decide));clear hbc;clear hr;generalize kD s p=v at *;go_enter Tryz.func125,Tryz.ntmps125;go_wp2;go_ret;exact ⟨eF (by rw [HE.o];rfl),rfl⟩
 have e40:(c == 40)=false:=aN.2 h40;by_cases h41:c=41
 · subst h41;have HE:=aH (fC (s:=s) (p:=p) (by rw [hbc];decide) (by rw [hbc];decide));clear hbc;clear hr;generalize kD s p=v at *;go_enter Tryz.func125,Tryz.ntmps125;go_wp2;go_ret;exact ⟨eF (by rw [HE.o];rfl),rfl⟩
 have e41:(c == 41)=false:=aN.2 h41;have HE:=aH (A4g (s:=s) (p:=p) (by rw [hbc];exact h58) (by rw [hbc];unfold sgB;rw [e59,e61,e47,e38,e33,e126,e42,e43,e63,e46,e40,e41];rfl));clear hbc;clear hr;generalize kD s p=v at *;go_enter Tryz.func125,Tryz.ntmps125;go_wp2;go_ret;exact ⟨eF (by rw [HE.o];rfl),rfl⟩
theorem FY (s:ByteArray) (p:Nat):s.extract p (p + 0)=(⟨#[]⟩:ByteArray):=by apply kT;rw [ByteArray.data_extract];simp
end Go.Proofs.YthkdnehgamefiaaGreat
