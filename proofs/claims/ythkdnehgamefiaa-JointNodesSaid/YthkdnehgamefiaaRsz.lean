import Derived.Test.YthkdnehgamefiaaJxB
namespace Go.Proofs.Ythkdnehgamefiaa
set_option linter.unusedVariables false
open Go.RowKit Go.Sort
theorem sumX_le (n:Nat):∀ (l:List Ex) (a:Int),a<=l.foldl (fun m y=>m + gW n y) a
 | [],a=>Int.le_refl _
 | y :: l,a=>by have h1:=sumX_le n l (a + gW n y);have h2:=size_nn n y;rw [List.foldl_cons];omega
theorem sumX_take (n:Nat) (x:Ex) (k:Nat):1<=(x.kids.take k).foldl (fun m y=>m + gW n y) 1/\(x.kids.take k).foldl (fun m y=>m + gW n y) 1<=gW (n + 1) x:=by
 refine ⟨sumX_le n _ 1,?_⟩;have h:gW (n + 1) x=(x.kids.drop k).foldl (fun m y=>m + gW n y) ((x.kids.take k).foldl (fun m y=>m + gW n y) 1):=by rw [<- List.foldl_append,List.take_append_drop];rfl
 rw [h];exact sumX_le n _ _
set_option maxRecDepth 1000000 in
set_option maxHeartbeats 1600000 in
theorem rsizew_any:∀ (n:Nat) (x:Ex) (ko:Option Addr) (kc:Nat) (w:World),fit 90001 n x=true->gW n x<=1000000->aV w n ko x.kids →
  Calls Try.prog 8 #[exv x ko kc] w fun e w'=>e=.returned (.int .i64 (gW n x))/\Below w.heap.size w w'
 | 0,x,_,_,_,h,_,_=>by cases h
 | n + 1,x,ko,kc,w,hf,hsz,hK=>by
  have IH:=aH (fun (y:Ex) (ao:Option Addr) (c:Nat) (W:World)=>rsizew_any n y ao c W);have HK:=aH hK;have HF:=aH hf;have HSZ:=aH hsz;have hl:=Db hf;obtain ⟨m,hm⟩:∃ m,x.kids.length=m:=⟨_,rfl⟩;have HM:=aH hm;have HB0:=aH (show Below w.heap.size w (w.alloc (.cells #[.int .i64 x.op,.string x.text,.int .u64 x.s0,.int .u64 x.s1,.int .u64 x.s2,.int .u64 x.s3,.slice ko m kc] 42)) from bA _);have HO:=aH (Own.fresh w 42 [.int .i64 x.op,.string x.text,.int .u64 x.s0,.int .u64 x.s1,.int .u64 x.s2,.int .u64 x.s3,.slice ko m kc]);unfold exv;rw [hm] at hl ⊢;clear hm hK hf hsz;go_enter Try.func8,Try.ntmps8;go_wp2_with fail
  go_loopw [3,4] (fun b3 b9 wr=>∃ k:Nat,b9=.int .i64 (k:Int)/\(k:Int)<=m/\b3=.int .i64 ((x.kids.take k).foldl (fun m y=>m + gW n y) 1)/\aQ (Below w.heap.size w wr)/\aQ (Own wr w.heap.size 42 [.int .i64 x.op,.string x.text,.int .u64 x.s0,.int .u64 x.s1,.int .u64 x.s2,.int .u64 x.s3,.slice ko m kc]))
   (fun _ b9 _=>m - (intOf b9).toNat)
  case atStart=>exact ⟨0,rfl,by omega,rfl,HB0,HO⟩
  case round =>
   obtain ⟨k,rfl,hk2,rfl,HB,HO1⟩:=hrel;clear HB0 HO;have o6:=HO1.o.cell 6;simp only [List.getElem?_cons_succ,List.getElem?_cons_zero] at o6;by_cases h2:(k:Int) < m
   ·
    obtain ⟨y,hy⟩:∃ y,x.kids[k]?=some y:=⟨_,aG (by have:=HM.o;omega)⟩;obtain ⟨g,off,kk,kd,rfl,hg,c0,c1,c2,c3,c4,c5,c6,hr⟩:=HK.o k y hy;have HR:=aH hr;have HFY:=aH (rQ HF.o hy);have hT:=zY (fun m y=>m + gW n y) 1 x.kids hy;have hs1:=sumX_take n x k;have hs2:=sumX_take n x (k + 1);have hs3:=size_nn n y;rw [hT] at hs2;have HT:=aH hT;have HBD:=aH (And.intro hs1 (And.intro hs2 hs3));clear hr hy hT hs1 hs2 hs3;generalize hq:((x.kids.take k).foldl (fun m y=>m + gW n y) 1)=q at *;have HQ:=aH hq;clear hq;have e0:=aC c0 HB.o;have e1:=aC c1 HB.o;have e2:=aC c2 HB.o;have e3:=aC c3 HB.o;have e4:=aC c4 HB.o;have e5:=aC c5 HB.o;have e6:=aC c6 HB.o;have hgr:g < wr.heap.size:=aL hg HB.o.size;clear c0 c1 c2 c3 c4 c5 c6 hg;obtain ⟨z,hz⟩:∃ z,gW n y=z:=⟨_,rfl⟩;have HZ:=aH hz;rw [hz] at HT HBD;clear hz;go_wp2_with fail;refine (IH.o y kk kd _ HFY.o (by rw [HZ.o];have:=HBD.o;have:=HSZ.o;omega) (aV.below (HB.o) HR.o)).mono ?_;rintro e w1 ⟨rfl,hb1⟩;rw [HZ.o];have HB1:=aH (aD (HB.o) hb1);have HO2:=aH (HO1.o.under hb1 HO1.o.lt);clear o6;clear hb1 e0 e1 e2 e3 e4 e5 e6;obtain ⟨hq0,hq1,hz0,hz1⟩:0<=q/\q<=1000000/\0<=z/\z<=1000000:=(by have:=HBD.o;have:=HSZ.o;omega);have HT2:=aH (HT.o);clear HT;go_wp2;all_goals go_roundw
    all_goals first
     | (case rel=>exact ⟨k + 1,by go_num,by omega,by rw [HT2.o] <;> (first | rfl | (congr 1;omega)),HB1,HO2⟩)
     | skip
    all_goals (simp [intOf];omega)
   · obtain rfl:k=m:=(by omega);have HE:=aH (show gW (n + 1) x=(x.kids.take k).foldl (fun m y=>m + gW n y) 1 from by rw [<- HM.o,Eo];rfl);have hs1:=sumX_take n x k;have hs2:=HSZ.o;generalize hq:((x.kids.take k).foldl (fun m y=>m + gW n y) 1)=q at *;clear hq;have hqb:0<=q/\q<=1000000:=(by omega);clear hs1 hs2;go_wp2;go_ret;exact ⟨eF HE.o.symm,HB.o⟩
end Go.Proofs.Ythkdnehgamefiaa
