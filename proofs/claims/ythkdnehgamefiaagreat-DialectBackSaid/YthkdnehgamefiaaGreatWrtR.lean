import Derived.Test.YthkdnehgamefiaaGreatWrtP
namespace Go.Proofs.YthkdnehgamefiaaGreat
set_option linter.unusedVariables false
set_option maxRecDepth 1000000
open Go.RowKit Go.Sort
theorem A2M {x:Ex} {n:Nat} (h:bW (n + 1) x) (w:World) (F:FuncId) (r:(Nat->Bool)->ByteArray)
  (HC:∀ (a b c d:Nat),a < P64->b < P64->c < P64->d < P64->∀ w:World,Calls Tryz.prog F #[.agg #[.int .u64 (a:Int),.int .u64 (b:Int),.int .u64 (c:Int),.int .u64 (d:Int)]] w fun e w'=>e=.returned (.string (r (dH a b c d)))/\Below w.heap.size w w') :
  Calls Tryz.prog F #[.agg #[.int .u64 x.s0,.int .u64 x.s1,.int .u64 x.s2,.int .u64 x.s3]] w fun e w'=>e=.returned (.string (r (inX x)))/\Below w.heap.size w w':=by
 obtain ⟨⟨⟨a0,a1⟩,⟨b0,b1⟩,⟨c0,c1⟩,⟨d0,d1⟩⟩,-⟩:=h;have k:=HC x.s0.toNat x.s1.toNat x.s2.toNat x.s3.toNat (by omega) (by omega) (by omega) (by omega) w;rw [Int.toNat_of_nonneg a0,Int.toNat_of_nonneg b0,Int.toNat_of_nonneg c0,Int.toNat_of_nonneg d0] at k;exact k
theorem tY (c:UInt8) (l:List UInt8):(⟨#[c]⟩:ByteArray) ++ ofL l=ofL (c :: l):=by show ofL [c] ++ ofL l=_;rw [lZ,vJ];rfl
theorem mU (c:UInt8) (l:List UInt8):ofL l ++ (⟨#[c]⟩:ByteArray)=ofL (l ++ [c]):=by rw [lZ]
theorem OO (t:ByteArray) (c:UInt8) (l:List UInt8):t ++ (⟨#[c]⟩:ByteArray) ++ ofL l=ofL (t.data.toList ++ c :: l):=by
 have h:t=ofL t.data.toList:=(pF t).symm
 conv=>lhs;rw [h]
 rw [mU,lZ,vJ]
 congr 1
 simp
theorem A1K (n:Nat) (x:Ex) (o:Int) (ho:x.op=o):prX (n + 1) x=if o=1 then (gU x.text).data.toList else if o=2 then (dF (inX x)).data.toList else if o=3 then [46] else if o=11 then x.text.data.toList
  else if o=4 then pW (prX n) x else if o=5 then pW (prX n) x
  else if o=6 then pW (prX n) x ++ [42] else if o=7 then pW (prX n) x ++ [43] else if o=8 then pW (prX n) x ++ [63]
  else if o=9 then 38 :: pW (prX n) x else if o=10 then 33 :: pW (prX n) x
  else if o=12 then x.text.data.toList ++ (58 :: pW (prX n) x) else if o=13 then 126 :: (pW (prX n) x ++ [126]) else []:=by subst ho;rfl
theorem Yt {n:Nat} {x:Ex} (hx:Ov (n + 1) x):(pW (prX n) x).length<=70368744177664:=hx.room.1
set_option maxRecDepth 100000 in
set_option maxHeartbeats 3200000 in
theorem xG:∀ n,Prints n
 | 0,x,ko,kc,w,hx,hK=>by exact hx.small.elim
 | n + 1,x,ko,kc,w,hx,hK=>by
  obtain ⟨m,hm⟩:∃ m,x.kids.length=m:=⟨_,rfl⟩;obtain ⟨o,ho⟩:∃ o,x.op=o:=⟨_,rfl⟩;have HPX:=aH (A1K n x o ho);have HLR:=aH (Yt hx);have HT:=aH (Ws hx.small).2;have HTX:=aH (fun W=>mQ x.text (by have:=HT.o;omega) W);have HCL:=aH (fun W=>A2M hx.sets W 76 dF uL)
  have IHK:=aH (fun (sp:ByteArray) (hs:sp=ofL (mP o)) (W:World) (hb:Below w.heap.size w W)=>show Calls Tryz.prog 77 #[.agg #[.int .i64 o,.string x.text,.int .u64 x.s0,.int .u64 x.s1,.int .u64 x.s2,.int .u64 x.s3,.slice ko m kc],.string sp] W fun e w'=>e=.returned (.string (ofL (pW (prX n) x)))/\Below W.heap.size W w' from by
   have h:=vE n (xG n) x ko kc sp (by rw [ho];exact hs) W hx (aV.below hb hK);unfold exv at h;rw [hm,ho] at h
   exact h)
  have HB0:=aH (dN w (.cells #[.int .i64 o,.string x.text,.int .u64 x.s0,.int .u64 x.s1,.int .u64 x.s2,.int .u64 x.s3,.slice ko m kc] 32));have HO:=aH (Own.fresh w 32 [.int .i64 o,.string x.text,.int .u64 x.s0,.int .u64 x.s1,.int .u64 x.s2,.int .u64 x.s3,.slice ko m kc]);have HTS:=aH (show (ofL x.text.data.toList)=x.text from pF _);have ts:x.text.size<=60:=HT.o;unfold exv;rw [hm,ho];generalize pW (prX n) x=l at *;clear hm ho hx hK;obtain ⟨R,hR⟩:∃ R,ofL l=R:=⟨_,rfl⟩;have HR:=aH hR;rw [hR] at IHK;have rs:R.size<=70368744177664:=by rw [<- hR,pG];exact HLR.o
  clear hR;by_cases h1:o=1
  · subst h1;go_enter Tryz.func44,Tryz.ntmps44;go_wp2_with fail;refine (HTX.o _).mono ?_;rintro e w1 ⟨rfl,hb1⟩;have HB1:=aH (aD HB0.o hb1);clear hb1;have HE:=aH (show gU x.text=ofL (prX (n + 1) x) by rw [HPX.o];exact (pF _).symm);generalize gU x.text=q at *;go_wp2;go_ret;exact ⟨bL (HE.o),HB1.o⟩
  by_cases h2:o=2
  · subst h2;go_enter Tryz.func44,Tryz.ntmps44;go_wp2_with fail;refine (HCL.o _).mono ?_;rintro e w1 ⟨rfl,hb1⟩;have HB1:=aH (aD HB0.o hb1);clear hb1;have HE:=aH (show dF (inX x)=ofL (prX (n + 1) x) by rw [HPX.o];exact (pF _).symm);generalize dF (inX x)=q at *;go_wp2;go_ret;exact ⟨bL (HE.o),HB1.o⟩
  by_cases h3:o=3
  · subst h3;go_enter Tryz.func44,Tryz.ntmps44;go_wp2;go_ret;exact ⟨bL (by rw [HPX.o];rfl),HB0.o⟩
  by_cases h11:o=11
  · subst h11;go_enter Tryz.func44,Tryz.ntmps44;go_wp2;go_ret;exact ⟨bL (by rw [HPX.o];exact HTS.o.symm),HB0.o⟩
  by_cases h4:o=4
  · subst h4;go_enter Tryz.func44,Tryz.ntmps44;go_wp2_with fail;refine (IHK.o _ (by decide) _ HB0.o).mono ?_;rintro e w1 ⟨rfl,hb1⟩;have HB1:=aH (aD HB0.o hb1);clear hb1;go_wp2;go_ret;exact ⟨bL (by rw [HPX.o];exact HR.o.symm),HB1.o⟩
  by_cases h5:o=5
  · subst h5;go_enter Tryz.func44,Tryz.ntmps44;go_wp2_with fail;refine (IHK.o _ (by decide) _ HB0.o).mono ?_;rintro e w1 ⟨rfl,hb1⟩;have HB1:=aH (aD HB0.o hb1);clear hb1;go_wp2;go_ret;exact ⟨bL (by rw [HPX.o];exact HR.o.symm),HB1.o⟩
  by_cases h6:o=6
  · subst h6;go_enter Tryz.func44,Tryz.ntmps44;go_wp2_with fail;refine (IHK.o _ (by decide) _ HB0.o).mono ?_;rintro e w1 ⟨rfl,hb1⟩;have HB1:=aH (aD HB0.o hb1);clear hb1;go_wp2;go_ret;exact ⟨bL (by rw [HPX.o,<- HR.o];exact mU _ _),HB1.o⟩
  by_cases h7:o=7
  · subst h7;go_enter Tryz.func44,Tryz.ntmps44;go_wp2_with fail;refine (IHK.o _ (by decide) _ HB0.o).mono ?_;rintro e w1 ⟨rfl,hb1⟩;have HB1:=aH (aD HB0.o hb1);clear hb1;go_wp2;go_ret;exact ⟨bL (by rw [HPX.o,<- HR.o];exact mU _ _),HB1.o⟩
  by_cases h8:o=8
  · subst h8;go_enter Tryz.func44,Tryz.ntmps44;go_wp2_with fail;refine (IHK.o _ (by decide) _ HB0.o).mono ?_;rintro e w1 ⟨rfl,hb1⟩;have HB1:=aH (aD HB0.o hb1);clear hb1;go_wp2;go_ret;exact ⟨bL (by rw [HPX.o,<- HR.o];exact mU _ _),HB1.o⟩
  by_cases h9:o=9
  · subst h9;go_enter Tryz.func44,Tryz.ntmps44;go_wp2_with fail;refine (IHK.o _ (by decide) _ HB0.o).mono ?_;rintro e w1 ⟨rfl,hb1⟩;have HB1:=aH (aD HB0.o hb1);clear hb1;go_wp2;go_ret;exact ⟨bL (by rw [HPX.o,<- HR.o];exact tY _ _),HB1.o⟩
  by_cases h10:o=10
  · subst h10;go_enter Tryz.func44,Tryz.ntmps44;go_wp2_with fail;refine (IHK.o _ (by decide) _ HB0.o).mono ?_;rintro e w1 ⟨rfl,hb1⟩;have HB1:=aH (aD HB0.o hb1);clear hb1;go_wp2;go_ret;exact ⟨bL (by rw [HPX.o,<- HR.o];exact tY _ _),HB1.o⟩
  by_cases h12:o=12
  ·
   subst h12;go_enter Tryz.func44,Tryz.ntmps44;go_upto_region 25 with (fail);generalize hW:w.alloc _=W1 at *;obtain ⟨c0,c1,c2,c3,c4,c5,c6⟩:=HO.o.seven;have hlt:=HO.o.lt;have d1:=cell_regrown c1;have d0:=cell_regrown c0;have d2:=cell_regrown c2;have d3:=cell_regrown c3;have d4:=cell_regrown c4;have d5:=cell_regrown c5;have d6:=cell_regrown c6;have CK:=aH (fun (dq:Nat) (os:Array Obj)=>IHK.o ⟨#[]⟩ (by decide) (grow (redrawn W1 dq) os) (aD HB0.o (below_regrown W1 dq os)));refine wp_region_quiet_below (by kernel_rfl) (by kernel_rfl) ?_;repeat (go_big_quiet_step (first | (go_at_call 77;with_reducible exact Calls.regrown_of (CK.o _ _))))
   refine wpQuiet_nil ?_;intro _ hw';obtain ⟨⟨dq,osq⟩,hw''⟩:=hw';subst hw'';go_wp2;go_ret;exact ⟨bL (by rw [HPX.o,<- HR.o];exact OO _ _ _),aD HB0.o (below_regrown _ _ _)⟩
  by_cases h13:o=13
  · subst h13;go_enter Tryz.func44,Tryz.ntmps44;go_wp2_with fail;refine (IHK.o _ (by decide) _ HB0.o).mono ?_;rintro e w1 ⟨rfl,hb1⟩;have HB1:=aH (aD HB0.o hb1);clear hb1;go_wp2;go_ret;exact ⟨bL (by rw [HPX.o,<- HR.o];exact (congrArg (· ++ (⟨#[126]⟩:ByteArray)) (tY 126 l)).trans (mU 126 _)),HB1.o⟩
  have e1:(o == 1)=false:=aN.2 h1;have e2:(o == 2)=false:=aN.2 h2;have e3:(o == 3)=false:=aN.2 h3;have e11:(o == 11)=false:=aN.2 h11;have e4:(o == 4)=false:=aN.2 h4;have e5:(o == 5)=false:=aN.2 h5;have e6:(o == 6)=false:=aN.2 h6;have e7:(o == 7)=false:=aN.2 h7;have e8:(o == 8)=false:=aN.2 h8;have e9:(o == 9)=false:=aN.2 h9;have e10:(o == 10)=false:=aN.2 h10;have e12:(o == 12)=false:=aN.2 h12;have e13:(o == 13)=false:=aN.2 h13;have HE:=aH (show prX (n + 1) x=[] by rw [HPX.o,if_neg h1,if_neg h2,if_neg h3,if_neg h11,if_neg h4,if_neg h5,if_neg h6,if_neg h7,if_neg h8,if_neg h9,if_neg h10,if_neg h12,if_neg h13]);clear h1 h2 h3 h11 h4 h5 h6 h7 h8 h9 h10 h12 h13;go_enter Tryz.func44,Tryz.ntmps44;go_wp2;go_ret;exact ⟨bL (by rw [HE.o];rfl),HB0.o⟩
end Go.Proofs.YthkdnehgamefiaaGreat
