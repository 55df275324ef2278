import Derived.Test.YthkdnehgamefiaaGreatHl
import Derived.Lib.Join
namespace Go.Proofs.YthkdnehgamefiaaGreat
set_option linter.unusedVariables false
set_option maxHeartbeats 1600000
set_option maxRecDepth 1000000
open Go.RowKit
def fQ (op:Int):Int:=if op=5 then 0 else if op=4 then 1 else if op=9\/op=10\/op=13\/op=12 then 2 else if op=6\/op=7\/op=8 then 3 else 4
def Ph (b:Bool) (l:List UInt8):List UInt8:=if b=true then 40 :: (l ++ [41]) else l
def mP (op:Int):List UInt8:=if op=4 then [32] else if op=5 then [32,47,32] else []
def inX (x:Ex):Nat->Bool:=dH x.s0.toNat x.s1.toNat x.s2.toNat x.s3.toNat
def kdX (f:Ex->List UInt8) (op:Int) (y:Ex):List UInt8:=Ph (decide (fQ y.op<=fQ op)) (f y)
def pW (f:Ex->List UInt8) (x:Ex):List UInt8:=Lib.join (x.kids.map (kdX f x.op)) (mP x.op)
def prX:Nat->Ex->List UInt8
 | 0,_=>[]
 | n + 1,x =>
  if x.op=1 then (gU x.text).data.toList else if x.op=2 then (dF (inX x)).data.toList else if x.op=3 then [46] else if x.op=11 then x.text.data.toList
  else if x.op=4 then pW (prX n) x else if x.op=5 then pW (prX n) x
  else if x.op=6 then pW (prX n) x ++ [42] else if x.op=7 then pW (prX n) x ++ [43] else if x.op=8 then pW (prX n) x ++ [63]
  else if x.op=9 then 38 :: pW (prX n) x else if x.op=10 then 33 :: pW (prX n) x
  else if x.op=12 then x.text.data.toList ++ (58 :: pW (prX n) x) else if x.op=13 then 126 :: (pW (prX n) x ++ [126]) else []
def bW:Nat->Ex->Prop
 | 0,_=>True
 | n + 1,x=>((0<=x.s0/\x.s0 < P64)/\(0<=x.s1/\x.s1 < P64)/\(0<=x.s2/\x.s2 < P64)/\(0<=x.s3/\x.s3 < P64))/\∀ (k:Nat) (y:Ex),x.kids[k]?=some y->bW n y
def XI:Nat->Ex->Prop
 | 0,_=>False
 | n + 1,x=>x.kids.length<=1000/\x.text.size<=60/\∀ (k:Nat) (y:Ex),x.kids[k]?=some y->XI n y
theorem Ws {n:Nat} {x:Ex} (h:XI n x):x.kids.length<=1000/\x.text.size<=60:=by
 cases n with
 | zero=>exact h.elim
 | succ n=>exact ⟨h.1,h.2.1⟩
theorem Wq {n:Nat} {x y:Ex} (h:XI (n + 1) x) {k:Nat} (hy:x.kids[k]?=some y):XI n y:=h.2.2 k y hy
def Rmx:Nat->Ex->Prop
 | 0,_=>True
 | n + 1,x=>(pW (prX n) x).length<=70368744177664/\∀ (k:Nat) (y:Ex),x.kids[k]?=some y->(prX n y).length<=70368744177664/\Rmx n y
structure Ov (n:Nat) (x:Ex):Prop where
 small:XI n x
 sets:bW n x
 room:Rmx n x
theorem Ov.kid {n:Nat} {x y:Ex} (h:Ov (n + 1) x) {k:Nat} (hy:x.kids[k]?=some y):Ov n y:=by exact ⟨Wq h.small hy,h.sets.2 k y hy,(h.room.2 k y hy).2⟩
theorem A1E (b:Bool) (l:List UInt8):(Ph b l).length<=l.length + 2:=by unfold Ph;split <;> simp
theorem A2F (op:Int):(mP op).length<=3:=by
 unfold mP;split
 · decide
 · split <;> decide
theorem TS (s:ByteArray):(gU s).data.toList.length<=4 * s.size + 2:=by have:=Ik s s.size;show ((wrT s s.size ++ [34]).toArray).toList.length<=_;simp;omega
theorem dN (w:World) (A:Obj):Below w.heap.size w (w.alloc A):=bA _
theorem A5K (op:Int) (w:World):Calls Tryz.prog 104 #[.int .i64 op] w fun e w'=>e=.returned (.int .i64 (fQ op))/\w'=w:=by
 by_cases h5:op=5
 · subst h5;go_enter Tryz.func104,Tryz.ntmps104;go_wp2;go_ret;exact ⟨rfl,rfl⟩
 by_cases h4:op=4
 · subst h4;go_enter Tryz.func104,Tryz.ntmps104;go_wp2;go_ret;exact ⟨rfl,rfl⟩
 by_cases h9:op=9
 · subst h9;go_enter Tryz.func104,Tryz.ntmps104;go_wp2;go_ret;exact ⟨rfl,rfl⟩
 by_cases h10:op=10
 · subst h10;go_enter Tryz.func104,Tryz.ntmps104;go_wp2;go_ret;exact ⟨rfl,rfl⟩
 by_cases h13:op=13
 · subst h13;go_enter Tryz.func104,Tryz.ntmps104;go_wp2;go_ret;exact ⟨rfl,rfl⟩
 by_cases h12:op=12
 · subst h12;go_enter Tryz.func104,Tryz.ntmps104;go_wp2;go_ret;exact ⟨rfl,rfl⟩
 by_cases h6:op=6
 · subst h6;go_enter Tryz.func104,Tryz.ntmps104;go_wp2;go_ret;exact ⟨rfl,rfl⟩
 by_cases h7:op=7
 · subst h7;go_enter Tryz.func104,Tryz.ntmps104;go_wp2;go_ret;exact ⟨rfl,rfl⟩
 by_cases h8:op=8
 · subst h8;go_enter Tryz.func104,Tryz.ntmps104;go_wp2;go_ret;exact ⟨rfl,rfl⟩
 have e5:(op == 5)=false:=aN.2 h5;have e4:(op == 4)=false:=aN.2 h4;have e9:(op == 9)=false:=aN.2 h9;have e10:(op == 10)=false:=aN.2 h10;have e13:(op == 13)=false:=aN.2 h13;have e12:(op == 12)=false:=aN.2 h12;have e6:(op == 6)=false:=aN.2 h6;have e7:(op == 7)=false:=aN.2 h7;have e8:(op == 8)=false:=aN.2 h8;have hc:fQ op=4:=by unfold fQ;rw [if_neg h5,if_neg h4,if_neg (by omega),if_neg (by omega)]
 rw [hc];clear hc h5 h4 h9 h10 h13 h12 h6 h7 h8;go_enter Tryz.func104,Tryz.ntmps104;go_wp2;go_ret;exact ⟨rfl,rfl⟩
theorem B7O (acc:List UInt8) {lo hi:Nat} (h:lo + 1 < hi):acc ++ (wrS spC lo).data.toList ++ [45] ++ (wrS spC hi).data.toList=acc ++ dY lo hi:=by unfold dY;rw [if_pos h,if_pos (by omega)];simp [List.append_assoc]
theorem B7N (acc:List UInt8) {lo hi:Nat} (h:¬ lo + 1 < hi) (h2:lo < hi):acc ++ (wrS spC lo).data.toList ++ (wrS spC hi).data.toList=acc ++ dY lo hi:=by unfold dY;rw [if_neg h,if_pos h2];simp [List.append_assoc]
theorem B7M (acc:List UInt8) {lo hi:Nat} (h2:¬ lo < hi):acc ++ (wrS spC lo).data.toList=acc ++ dY lo hi:=by unfold dY;rw [if_neg (by omega),if_neg h2];simp
set_option maxRecDepth 100000 in
theorem uL (a b c d:Nat) (ha:a < P64) (hb:b < P64) (hc:c < P64) (hd:d < P64) (w:World) :
  Calls Tryz.prog 76 #[.agg #[.int .u64 (a:Int),.int .u64 (b:Int),.int .u64 (c:Int),.int .u64 (d:Int)]] w
   fun e w'=>e=.returned (.string (dF (dH a b c d)))/\Below w.heap.size w w':=by
 have HH:=aH (fun x hx W=>Gw a b c d x hx ha hb hc hd W);clear ha hb hc hd;obtain ⟨h,hh⟩:∃ h,dH a b c d=h:=⟨_,rfl⟩;rw [hh] at HH ⊢;clear hh;have HTL:=aH (Sv h);obtain ⟨tot,htot⟩:∃ tot,A2x h=tot:=⟨_,rfl⟩;rw [htot] at HTL;have HE:=aH (show ofL (tot ++ [93])=dF h by unfold dF;rw [htot]);have HT0:=aH (show [91] ++ oK h 257 0=tot from htot);clear htot;obtain ⟨BX,hBX⟩:∃ BX,Obj.cells #[.int .u64 (a:Int),.int .u64 (b:Int),.int .u64 (c:Int),.int .u64 (d:Int)] 29=BX:=⟨_,rfl⟩;have HO0:=aH ((Own.fresh w 29 [.int .u64 (a:Int),.int .u64 (b:Int),.int .u64 (c:Int),.int .u64 (d:Int)]).on_alloc (.cells #[.pointer none,.slice none 0 0] 88));have HB0:=aH (show Below w.heap.size w ((w.alloc (.cells #[.int .u64 (a:Int),.int .u64 (b:Int),.int .u64 (c:Int),.int .u64 (d:Int)] 29)).alloc (.cells #[.pointer none,.slice none 0 0] 88)) by go_grown)
 have HL0:=aH (show Bld (w.heap.size + 1) (w.heap.size + 1) [] ((w.alloc (.cells #[.int .u64 (a:Int),.int .u64 (b:Int),.int .u64 (c:Int),.int .u64 (d:Int)] 29)).alloc (.cells #[.pointer none,.slice none 0 0] 88)) by
  have g:=A5G (w.alloc (.cells #[.int .u64 (a:Int),.int .u64 (b:Int),.int .u64 (c:Int),.int .u64 (d:Int)] 29));rw [show (w.alloc (.cells #[.int .u64 (a:Int),.int .u64 (b:Int),.int .u64 (c:Int),.int .u64 (d:Int)] 29)).heap.size=w.heap.size + 1 by simp] at g
  exact g)
 clear hBX BX;go_enter Tryz.func76,Tryz.ntmps76;go_wp2_with fail;refine (zV (w.heap.size + 1) (w.heap.size + 1) [] 91 _ HL0.o (by simp) HO0.o.lt).mono ?_;rintro e w1 ⟨rfl,hl1,hb1⟩;have HO1:=aH (HO0.o.under hb1 (Nat.lt_succ_self _));have HB1:=aH (HB0.o.trans (hb1.mono (Nat.le_succ _)));have HL1:=aH hl1;clear hl1 hb1 HO0 HB0 HL0;go_wp2_with fail
 go_loopw [4] (fun b4 wr=>∃ (low f:Nat) (acc:List UInt8),b4=.int .i64 (low:Int)/\low<=256/\aQ (acc ++ oK h f low=tot/\256 < f + low)/\aQ (Bld (w.heap.size + 1) (w.heap.size + 1) acc wr)/\aQ (Own wr w.heap.size 29 [.int .u64 (a:Int),.int .u64 (b:Int),.int .u64 (c:Int),.int .u64 (d:Int)])/\aQ (Below w.heap.size w wr)) (fun b4 _=>256 - (intOf b4).toNat)
 case atStart=>exact ⟨0,257,[91],rfl,by omega,aH ⟨HT0.o,by omega⟩,HL1,HO1,HB1⟩
 case round =>
  obtain ⟨low,f,acc,rfl,hlow,HT,HL,HO,HB⟩:=hrel;clear HT0 HO1 HB1 HL1;have hu:acc.length<=2400:=UG HT.o.1 HTL.o;by_cases hlt:low < 256
  ·
   obtain ⟨o0,o1,o2,o3,q0,q1,q2,q3⟩:=HO.o.four;obtain ⟨bh,hbh⟩:∃ bh,h low=bh:=⟨_,rfl⟩;have HC:=aH (HH.o low hlt);rw [hbh] at HC
   cases bh
   ·
    have HT2:=aH (And.intro (YY HT.o.1 HT.o.2 hlt hbh) (show 256 < (f - 1) + (low + 1) by have:=HT.o.2;omega));clear HT hbh;go_wp2_with fail;refine (HC.o _).mono ?_;rintro e w2 ⟨rfl,hb2⟩;have HO2:=aH (HO.o.under hb2 HO.o.lt);have HB2:=aH (aD HB.o hb2);have HL2:=aH (HL.o.below hb2);clear hb2 HO HB HL;clear HC o0 o1 o2 o3 q0 q1 q2 q3;go_wp2
    go_roundw
    case rel=>exact ⟨low + 1,f - 1,acc,by go_num,by omega,HT2,HL2,HO2,HB2⟩
    case measure=>simp [intOf];omega
   ·
    have hge:=Kq h 255 low;have hle:=Fv h 255 low (by omega);have HT2:=aH (And.intro (YZ HT.o.1 HT.o.2 hlt hbh) (show 256 < (f - 1) + (jL h 255 low + 1) by have:=HT.o.2;omega));obtain ⟨HI,hHI⟩:∃ HI,jL h 255 low=HI:=⟨_,rfl⟩;rw [hHI] at hge hle HT2;have HR0:=aH hHI;clear HT hbh hHI;go_wp2_with fail;refine (HC.o _).mono ?_;rintro e w2 ⟨rfl,hb2⟩;have HO2:=aH (HO.o.under hb2 HO.o.lt);have HB2:=aH (aD HB.o hb2);have HL2:=aH (HL.o.below hb2);clear hb2 HO HB HL;clear HC o0 o1 o2 o3 q0 q1 q2 q3;go_wp2_with fail
    go_loopw [5] (fun b5 wr=>∃ (k f':Nat),b5=.int .i64 (k:Int)/\k<=255/\aQ (jL h f' k=HI/\254 < f' + k)/\aQ (Bld (w.heap.size + 1) (w.heap.size + 1) acc wr)/\aQ (Own wr w.heap.size 29 [.int .u64 (a:Int),.int .u64 (b:Int),.int .u64 (c:Int),.int .u64 (d:Int)])/\aQ (Below w.heap.size w wr)) (fun b5 _=>255 - (intOf b5).toNat)
    case atStart=>exact ⟨low,255,rfl,by omega,aH ⟨HR0.o,by omega⟩,HL2,HO2,HB2⟩
    case round =>
     obtain ⟨k,f',rfl,hk,HR,HL,HO,HB⟩:=hrel;clear HO2 HB2 HR0 HL2;obtain ⟨o0,o1,o2,o3,q0,q1,q2,q3⟩:=HO.o.four;by_cases hk1:k < 255
     ·
      have HC:=aH (HH.o (k + 1) (by omega));obtain ⟨bh,hbh⟩:∃ bh,h (k + 1)=bh:=⟨_,rfl⟩;rw [hbh] at HC
      cases bh
      ·
       have hE:=HR.o.1;rw [Cg f' (by rw [hbh];simp)] at hE;subst hE;clear HR hbh;go_wp2_with fail;refine (HC.o _).mono ?_;rintro e w3 ⟨rfl,hb3⟩;have HO3:=aH (HO.o.under hb3 HO.o.lt);have HB3:=aH (aD HB.o hb3);have HL3:=aH (HL.o.below hb3);clear hb3 HO HB HL;clear HC o0 o1 o2 o3 q0 q1 q2 q3;have HW1:=aH (fun W=>yO spC (low:Int) (by omega) (by omega) W);have HW2:=aH (fun W=>yO spC (k:Int) (by omega) (by omega) W);have ht1:=pM spC (low:Int);have ht2:=pM spC (k:Int);have hlow0:(0:Int)<=(low:Int):=Int.natCast_nonneg _;have hk0:(0:Int)<=(k:Int):=Int.natCast_nonneg _;by_cases g1:low + 1 < k
       ·
        have HE3:=aH (show acc ++ (wrS spC low).data.toList ++ [45] ++ (wrS spC k).data.toList=acc ++ dY low k from B7O acc g1);have hz1:(wrS spC low).data.toList.length<=4:=Lf _ _;generalize wrS spC (low:Int)=t1 at *;generalize wrS spC (k:Int)=t2 at *;go_wp2_with fail;refine (HW1.o _).mono ?_;rintro e w4 ⟨rfl,hb4⟩;have HO4:=aH (HO3.o.under hb4 HO3.o.lt);have HB4:=aH (aD HB3.o hb4);have HL4:=aH (HL3.o.below hb4);clear hb4 HO3 HB3 HL3;go_wp2_with fail;refine (qJ (w.heap.size + 1) (w.heap.size + 1) acc t1 _ HL4.o (by omega) (by omega) HO4.o.lt).mono ?_;rintro e w5 ⟨rfl,hl5,hb5⟩;have HO5:=aH (HO4.o.under hb5 (Nat.lt_succ_self _));have HB5:=aH (HB4.o.trans (hb5.mono (Nat.le_succ _)));have HL5:=aH hl5;clear hl5 hb5 HO4 HB4 HL4;go_wp2_with fail;refine (zV (w.heap.size + 1) (w.heap.size + 1) (acc ++ t1.data.toList) 45 _ HL5.o (by rw [List.length_append];omega) HO5.o.lt).mono ?_;rintro e w6 ⟨rfl,hl6,hb6⟩;have HO6:=aH (HO5.o.under hb6 (Nat.lt_succ_self _));have HB6:=aH (HB5.o.trans (hb6.mono (Nat.le_succ _)));have HL6:=aH hl6;clear hl6 hb6 HO5 HB5 HL5;go_wp2_with fail;refine (HW2.o _).mono ?_;rintro e w7 ⟨rfl,hb7⟩;have HO7:=aH (HO6.o.under hb7 HO6.o.lt);have HB7:=aH (aD HB6.o hb7);have HL7:=aH (HL6.o.below hb7);clear hb7 HO6 HB6 HL6;go_wp2_with fail;refine (qJ (w.heap.size + 1) (w.heap.size + 1) (acc ++ t1.data.toList ++ [45]) t2 _ HL7.o (by simp only [List.length_append,List.length_cons,List.length_nil];omega) (by omega) HO7.o.lt).mono ?_;rintro e w8 ⟨rfl,hl8,hb8⟩;have HO8:=aH (HO7.o.under hb8 (Nat.lt_succ_self _));have HB8:=aH (HB7.o.trans (hb8.mono (Nat.le_succ _)));have HL8:=aH hl8;clear hl8 hb8 HO7 HB7 HL7;have HLZ:=aH (show Bld (w.heap.size + 1) (w.heap.size + 1) (acc ++ dY low k) _ from HE3.o ▸ HL8.o);clear HL8;go_wp2
        go_roundw
        case rel=>exact ⟨k + 1,f - 1,acc ++ dY low k,by go_num,by omega,HT2,HLZ,HO8,HB8⟩
        case measure=>simp [intOf];omega
       ·
        by_cases g2:low < k
        ·
         have HE3:=aH (show acc ++ (wrS spC low).data.toList ++ (wrS spC k).data.toList=acc ++ dY low k from B7N acc g1 g2);have hz1:(wrS spC low).data.toList.length<=4:=Lf _ _;generalize wrS spC (low:Int)=t1 at *;generalize wrS spC (k:Int)=t2 at *;go_wp2_with fail;refine (HW1.o _).mono ?_;rintro e w4 ⟨rfl,hb4⟩;have HO4:=aH (HO3.o.under hb4 HO3.o.lt);have HB4:=aH (aD HB3.o hb4);have HL4:=aH (HL3.o.below hb4);clear hb4 HO3 HB3 HL3;go_wp2_with fail;refine (qJ (w.heap.size + 1) (w.heap.size + 1) acc t1 _ HL4.o (by omega) (by omega) HO4.o.lt).mono ?_;rintro e w5 ⟨rfl,hl5,hb5⟩;have HO5:=aH (HO4.o.under hb5 (Nat.lt_succ_self _));have HB5:=aH (HB4.o.trans (hb5.mono (Nat.le_succ _)));have HL5:=aH hl5;clear hl5 hb5 HO4 HB4 HL4;go_wp2_with fail;refine (HW2.o _).mono ?_;rintro e w7 ⟨rfl,hb7⟩;have HO7:=aH (HO5.o.under hb7 HO5.o.lt);have HB7:=aH (aD HB5.o hb7);have HL7:=aH (HL5.o.below hb7);clear hb7 HO5 HB5 HL5;go_wp2_with fail;refine (qJ (w.heap.size + 1) (w.heap.size + 1) (acc ++ t1.data.toList) t2 _ HL7.o (by simp only [List.length_append];omega) (by omega) HO7.o.lt).mono ?_;rintro e w8 ⟨rfl,hl8,hb8⟩;have HO8:=aH (HO7.o.under hb8 (Nat.lt_succ_self _));have HB8:=aH (HB7.o.trans (hb8.mono (Nat.le_succ _)));have HL8:=aH hl8;clear hl8 hb8 HO7 HB7 HL7;have HLZ:=aH (show Bld (w.heap.size + 1) (w.heap.size + 1) (acc ++ dY low k) _ from HE3.o ▸ HL8.o);clear HL8;go_wp2
         go_roundw
         case rel=>exact ⟨k + 1,f - 1,acc ++ dY low k,by go_num,by omega,HT2,HLZ,HO8,HB8⟩
         case measure=>simp [intOf];omega
        ·
         have HE3:=aH (show acc ++ (wrS spC low).data.toList=acc ++ dY low k from B7M acc g2);have hz1:(wrS spC low).data.toList.length<=4:=Lf _ _;generalize wrS spC (low:Int)=t1 at *;generalize wrS spC (k:Int)=t2 at *;go_wp2_with fail;refine (HW1.o _).mono ?_;rintro e w4 ⟨rfl,hb4⟩;have HO4:=aH (HO3.o.under hb4 HO3.o.lt);have HB4:=aH (aD HB3.o hb4);have HL4:=aH (HL3.o.below hb4);clear hb4 HO3 HB3 HL3;go_wp2_with fail;refine (qJ (w.heap.size + 1) (w.heap.size + 1) acc t1 _ HL4.o (by omega) (by omega) HO4.o.lt).mono ?_;rintro e w5 ⟨rfl,hl5,hb5⟩;have HO5:=aH (HO4.o.under hb5 (Nat.lt_succ_self _));have HB5:=aH (HB4.o.trans (hb5.mono (Nat.le_succ _)));have HL5:=aH hl5;clear hl5 hb5 HO4 HB4 HL4;have HLZ:=aH (show Bld (w.heap.size + 1) (w.heap.size + 1) (acc ++ dY low k) _ from HE3.o ▸ HL5.o);clear HL5;go_wp2
         go_roundw
         case rel=>exact ⟨k + 1,f - 1,acc ++ dY low k,by go_num,by omega,HT2,HLZ,HO5,HB5⟩
         case measure=>simp [intOf];omega
      ·
       have HR2:=aH (show jL h (f' - 1) (k + 1)=HI/\254 < (f' - 1) + (k + 1) by
        obtain ⟨r1,r2⟩:=HR.o;obtain ⟨g,rfl⟩:∃ g,f'=g + 1:=⟨f' - 1,by omega⟩;rw [Rb hk1 hbh] at r1
        exact ⟨r1,by omega⟩)
       clear HR hbh;go_wp2_with fail;refine (HC.o _).mono ?_;rintro e w3 ⟨rfl,hb3⟩;have HO3:=aH (HO.o.under hb3 HO.o.lt);have HB3:=aH (aD HB.o hb3);have HL3:=aH (HL.o.below hb3);clear hb3 HO HB HL;clear HC o0 o1 o2 o3 q0 q1 q2 q3;go_wp2
       go_roundw
       case rel=>exact ⟨k + 1,f' - 1,by go_num,by omega,HR2,HL3,HO3,HB3⟩
       case measure=>simp [intOf];omega
     ·
      have hE:=HR.o.1;rw [Cg f' (by omega)] at hE;subst hE;clear HR o0 o1 o2 o3 q0 q1 q2 q3;have HW1:=aH (fun W=>yO spC (low:Int) (by omega) (by omega) W);have HW2:=aH (fun W=>yO spC (k:Int) (by omega) (by omega) W);have ht1:=pM spC (low:Int);have ht2:=pM spC (k:Int);have hlow0:(0:Int)<=(low:Int):=Int.natCast_nonneg _;have hk0:(0:Int)<=(k:Int):=Int.natCast_nonneg _;by_cases g1:low + 1 < k
      ·
       have HE3:=aH (show acc ++ (wrS spC low).data.toList ++ [45] ++ (wrS spC k).data.toList=acc ++ dY low k from B7O acc g1);have hz1:(wrS spC low).data.toList.length<=4:=Lf _ _;generalize wrS spC (low:Int)=t1 at *;generalize wrS spC (k:Int)=t2 at *;go_wp2_with fail;refine (HW1.o _).mono ?_;rintro e w4 ⟨rfl,hb4⟩;have HO4:=aH (HO.o.under hb4 HO.o.lt);have HB4:=aH (aD HB.o hb4);have HL4:=aH (HL.o.below hb4);clear hb4 HO HB HL;go_wp2_with fail;refine (qJ (w.heap.size + 1) (w.heap.size + 1) acc t1 _ HL4.o (by omega) (by omega) HO4.o.lt).mono ?_;rintro e w5 ⟨rfl,hl5,hb5⟩;have HO5:=aH (HO4.o.under hb5 (Nat.lt_succ_self _));have HB5:=aH (HB4.o.trans (hb5.mono (Nat.le_succ _)));have HL5:=aH hl5;clear hl5 hb5 HO4 HB4 HL4;go_wp2_with fail;refine (zV (w.heap.size + 1) (w.heap.size + 1) (acc ++ t1.data.toList) 45 _ HL5.o (by rw [List.length_append];omega) HO5.o.lt).mono ?_;rintro e w6 ⟨rfl,hl6,hb6⟩;have HO6:=aH (HO5.o.under hb6 (Nat.lt_succ_self _));have HB6:=aH (HB5.o.trans (hb6.mono (Nat.le_succ _)));have HL6:=aH hl6;clear hl6 hb6 HO5 HB5 HL5;go_wp2_with fail;refine (HW2.o _).mono ?_;rintro e w7 ⟨rfl,hb7⟩;have HO7:=aH (HO6.o.under hb7 HO6.o.lt);have HB7:=aH (aD HB6.o hb7);have HL7:=aH (HL6.o.below hb7);clear hb7 HO6 HB6 HL6;go_wp2_with fail;refine (qJ (w.heap.size + 1) (w.heap.size + 1) (acc ++ t1.data.toList ++ [45]) t2 _ HL7.o (by simp only [List.length_append,List.length_cons,List.length_nil];omega) (by omega) HO7.o.lt).mono ?_;rintro e w8 ⟨rfl,hl8,hb8⟩;have HO8:=aH (HO7.o.under hb8 (Nat.lt_succ_self _));have HB8:=aH (HB7.o.trans (hb8.mono (Nat.le_succ _)));have HL8:=aH hl8;clear hl8 hb8 HO7 HB7 HL7;have HLZ:=aH (show Bld (w.heap.size + 1) (w.heap.size + 1) (acc ++ dY low k) _ from HE3.o ▸ HL8.o);clear HL8;go_wp2
       go_roundw
       case rel=>exact ⟨k + 1,f - 1,acc ++ dY low k,by go_num,by omega,HT2,HLZ,HO8,HB8⟩
       case measure=>simp [intOf];omega
      ·
       by_cases g2:low < k
       ·
        have HE3:=aH (show acc ++ (wrS spC low).data.toList ++ (wrS spC k).data.toList=acc ++ dY low k from B7N acc g1 g2);have hz1:(wrS spC low).data.toList.length<=4:=Lf _ _;generalize wrS spC (low:Int)=t1 at *;generalize wrS spC (k:Int)=t2 at *;go_wp2_with fail;refine (HW1.o _).mono ?_;rintro e w4 ⟨rfl,hb4⟩;have HO4:=aH (HO.o.under hb4 HO.o.lt);have HB4:=aH (aD HB.o hb4);have HL4:=aH (HL.o.below hb4);clear hb4 HO HB HL;go_wp2_with fail;refine (qJ (w.heap.size + 1) (w.heap.size + 1) acc t1 _ HL4.o (by omega) (by omega) HO4.o.lt).mono ?_;rintro e w5 ⟨rfl,hl5,hb5⟩;have HO5:=aH (HO4.o.under hb5 (Nat.lt_succ_self _));have HB5:=aH (HB4.o.trans (hb5.mono (Nat.le_succ _)));have HL5:=aH hl5;clear hl5 hb5 HO4 HB4 HL4;go_wp2_with fail;refine (HW2.o _).mono ?_;rintro e w7 ⟨rfl,hb7⟩;have HO7:=aH (HO5.o.under hb7 HO5.o.lt);have HB7:=aH (aD HB5.o hb7);have HL7:=aH (HL5.o.below hb7);clear hb7 HO5 HB5 HL5;go_wp2_with fail;refine (qJ (w.heap.size + 1) (w.heap.size + 1) (acc ++ t1.data.toList) t2 _ HL7.o (by simp only [List.length_append];omega) (by omega) HO7.o.lt).mono ?_;rintro e w8 ⟨rfl,hl8,hb8⟩;have HO8:=aH (HO7.o.under hb8 (Nat.lt_succ_self _));have HB8:=aH (HB7.o.trans (hb8.mono (Nat.le_succ _)));have HL8:=aH hl8;clear hl8 hb8 HO7 HB7 HL7;have HLZ:=aH (show Bld (w.heap.size + 1) (w.heap.size + 1) (acc ++ dY low k) _ from HE3.o ▸ HL8.o);clear HL8;go_wp2
        go_roundw
        case rel=>exact ⟨k + 1,f - 1,acc ++ dY low k,by go_num,by omega,HT2,HLZ,HO8,HB8⟩
        case measure=>simp [intOf];omega
       ·
        have HE3:=aH (show acc ++ (wrS spC low).data.toList=acc ++ dY low k from B7M acc g2);have hz1:(wrS spC low).data.toList.length<=4:=Lf _ _;generalize wrS spC (low:Int)=t1 at *;generalize wrS spC (k:Int)=t2 at *;go_wp2_with fail;refine (HW1.o _).mono ?_;rintro e w4 ⟨rfl,hb4⟩;have HO4:=aH (HO.o.under hb4 HO.o.lt);have HB4:=aH (aD HB.o hb4);have HL4:=aH (HL.o.below hb4);clear hb4 HO HB HL;go_wp2_with fail;refine (qJ (w.heap.size + 1) (w.heap.size + 1) acc t1 _ HL4.o (by omega) (by omega) HO4.o.lt).mono ?_;rintro e w5 ⟨rfl,hl5,hb5⟩;have HO5:=aH (HO4.o.under hb5 (Nat.lt_succ_self _));have HB5:=aH (HB4.o.trans (hb5.mono (Nat.le_succ _)));have HL5:=aH hl5;clear hl5 hb5 HO4 HB4 HL4;have HLZ:=aH (show Bld (w.heap.size + 1) (w.heap.size + 1) (acc ++ dY low k) _ from HE3.o ▸ HL5.o);clear HL5;go_wp2
        go_roundw
        case rel=>exact ⟨k + 1,f - 1,acc ++ dY low k,by go_num,by omega,HT2,HLZ,HO5,HB5⟩
        case measure=>simp [intOf];omega
  · have hA:=ZA HT.o.1 hlt;subst hA;clear HT;go_wp2_with fail;refine (zV (w.heap.size + 1) (w.heap.size + 1) acc 93 _ HL.o (by omega) HO.o.lt).mono ?_;rintro e w2 ⟨rfl,hl2,hb2⟩;have HO2:=aH (HO.o.under hb2 (Nat.lt_succ_self _));have HB2:=aH (HB.o.trans (hb2.mono (Nat.le_succ _)));have HL2:=aH hl2;clear hl2 hb2 HO HB HL;go_wp2_with fail;refine (Zt (w.heap.size + 1) (w.heap.size + 1) (acc ++ [93]) _ HL2.o HO2.o.lt).mono ?_;rintro e w3 ⟨rfl,hb3⟩;have HB3:=aH (HB2.o.trans (hb3.mono (Nat.le_succ _)));clear hb3;go_wp2;go_ret;exact ⟨bL HE.o,HB3.o⟩
end Go.Proofs.YthkdnehgamefiaaGreat
