import Derived.Test.YthkdnehgamefiaaGreatHi
import Derived.Laws.Tables
import Derived.Deep.AppendLies
namespace Go.Proofs.YthkdnehgamefiaaGreat
set_option linter.unusedVariables false
set_option maxHeartbeats 3200000
open Go.RowKit
theorem Own.seven {w:World} {g:Nat} {t:TypeId} {v0 v1 v2 v3 v4 v5 v6:Value} (h:Own w g t [v0,v1,v2,v3,v4,v5,v6]) :
  w.cell? ⟨g,0,none⟩=some v0/\w.cell? ⟨g,1,none⟩=some v1/\w.cell? ⟨g,2,none⟩=some v2/\w.cell? ⟨g,3,none⟩=some v3/\w.cell? ⟨g,4,none⟩=some v4/\w.cell? ⟨g,5,none⟩=some v5/\w.cell? ⟨g,6,none⟩=some v6 :=
 ⟨h.cell 0,h.cell 1,h.cell 2,h.cell 3,h.cell 4,h.cell 5,h.cell 6⟩
theorem Own.seven2 {w:World} {g:Nat} {t:TypeId} {v0 v1 v2 v3 v4 v5 v6:Value} (h:Own w g t [v0,v1,v2,v3,v4,v5,v6]) :
  w.cell? ⟨g,0,none⟩=some v0/\w.cell? ⟨g,1,none⟩=some v1/\w.cell? ⟨g,2,none⟩=some v2/\w.cell? ⟨g,3,none⟩=some v3/\w.cell? ⟨g,4,none⟩=some v4/\w.cell? ⟨g,5,none⟩=some v5/\w.cell? ⟨g,6,none⟩=some v6 ∧
  w.frozen? ⟨g,0,none⟩=false/\w.frozen? ⟨g,1,none⟩=false/\w.frozen? ⟨g,2,none⟩=false/\w.frozen? ⟨g,3,none⟩=false/\w.frozen? ⟨g,4,none⟩=false/\w.frozen? ⟨g,5,none⟩=false/\w.frozen? ⟨g,6,none⟩=false :=
 ⟨h.cell 0,h.cell 1,h.cell 2,h.cell 3,h.cell 4,h.cell 5,h.cell 6,h.thaw 0,h.thaw 1,h.thaw 2,h.thaw 3,h.thaw 4,h.thaw 5,h.thaw 6⟩
def bI (w:World) (g:Nat) (u0 u1 u2 u3 u4 u5 u6:Value):World:=((((((w.setCell ⟨g,0,none⟩ u0).setCell ⟨g,1,none⟩ u1).setCell ⟨g,2,none⟩ u2).setCell ⟨g,3,none⟩ u3).setCell ⟨g,4,none⟩ u4).setCell ⟨g,5,none⟩ u5).setCell ⟨g,6,none⟩ u6
theorem aU (w:World) (g:Nat) (u0 u1 u2 u3 u4 u5 u6:Value):((((((w.setCell ⟨g,0,none⟩ u0).setCell ⟨g,1,none⟩ u1).setCell ⟨g,2,none⟩ u2).setCell ⟨g,3,none⟩ u3).setCell ⟨g,4,none⟩ u4).setCell ⟨g,5,none⟩ u5).setCell ⟨g,6,none⟩ u6=bI w g u0 u1 u2 u3 u4 u5 u6:=rfl
theorem Own.put7 {w:World} {g:Nat} {t:TypeId} {v0 v1 v2 v3 v4 v5 v6 u0 u1 u2 u3 u4 u5 u6:Value} (h:Own w g t [v0,v1,v2,v3,v4,v5,v6]):Own (bI w g u0 u1 u2 u3 u4 u5 u6) g t [u0,u1,u2,u3,u4,u5,u6] :=
 ((((((h.put 0 u0).put 1 u1).put 2 u2).put 3 u3).put 4 u4).put 5 u5).put 6 u6
theorem p7 {w:World} {g:Nat} {t:TypeId} {v0 v1 v2 v3 v4 v5 v6:Value} (h:Own w g t [v0,v1,v2,v3,v4,v5,v6]) (u0 u1 u2 u3 u4 u5 u6:Value):Own (bI w g u0 u1 u2 u3 u4 u5 u6) g t [u0,u1,u2,u3,u4,u5,u6]:=h.put7
theorem bS {B g:Nat} {a w:World} (h:Below B a w) (hg:B<=g) (u0 u1 u2 u3 u4 u5 u6:Value):Below B a (bI w g u0 u1 u2 u3 u4 u5 u6) :=
 ((((((h.setCell (p:=⟨g,0,none⟩) hg u0).setCell (p:=⟨g,1,none⟩) hg u1).setCell (p:=⟨g,2,none⟩) hg u2).setCell (p:=⟨g,3,none⟩) hg u3).setCell (p:=⟨g,4,none⟩) hg u4).setCell (p:=⟨g,5,none⟩) hg u5).setCell (p:=⟨g,6,none⟩) hg u6
@[go_sem 2000] theorem C0u (k:Int) (t:ByteArray) (w:World):(Instr.build 100 #[(0,.int .i64 k),(1,.string t)]).run Tryz.prog w=.ok (.agg #[.int .i64 k,.string t,.int .u64 0,.int .u64 0,.int .u64 0,.int .u64 0,.int .i64 0]) w:=run_build w _ _ _ (by kernel_rfl)
@[go_sem 2000] theorem C0v (k a b c d:Int) (w:World):(Instr.build 100 #[(0,.int .i64 k),(2,.agg #[.int .u64 a,.int .u64 b,.int .u64 c,.int .u64 d])]).run Tryz.prog w=.ok (.agg #[.int .i64 k,.string ⟨#[]⟩,.int .u64 a,.int .u64 b,.int .u64 c,.int .u64 d,.int .i64 0]) w:=run_build w _ _ _ (by kernel_rfl)
@[go_sem 2000] theorem C0w (n:Int) (w:World):(Instr.build 100 #[(3,.int .i64 n)]).run Tryz.prog w=.ok (.agg #[.int .i64 0,.string ⟨#[]⟩,.int .u64 0,.int .u64 0,.int .u64 0,.int .u64 0,.int .i64 n]) w:=run_build w _ _ _ (by kernel_rfl)
@[go_sem 2000] theorem C0x (k n:Int) (w:World):(Instr.build 100 #[(0,.int .i64 k),(3,.int .i64 n)]).run Tryz.prog w=.ok (.agg #[.int .i64 k,.string ⟨#[]⟩,.int .u64 0,.int .u64 0,.int .u64 0,.int .u64 0,.int .i64 n]) w:=run_build w _ _ _ (by kernel_rfl)
structure Tok where
 kd:Nat
 tx:ByteArray
 st:bO
 pos:Nat
def Tok.row (t:Tok):List Value:=[.int .i64 (t.kd:Int),.string t.tx,.int .u64 (t.st.1:Int),.int .u64 (t.st.2.1:Int),.int .u64 (t.st.2.2.1:Int),.int .u64 (t.st.2.2.2:Int),.int .i64 (t.pos:Int)]
def zU (t:Tok):Value:=.agg #[.int .i64 (t.kd:Int),.string t.tx,.int .u64 (t.st.1:Int),.int .u64 (t.st.2.1:Int),.int .u64 (t.st.2.2.1:Int),.int .u64 (t.st.2.2.2:Int),.int .i64 (t.pos:Int)]
def B6v (p:Nat):Option (ByteArray × Nat)->Option (Tok × Nat)
 | none=>none
 | some (u,m)=>some (⟨2,u,set0,p⟩,m)
def B4Q (p:Nat):Option (bO × Nat)->Option (Tok × Nat)
 | none=>none
 | some (x,m)=>some (⟨3,⟨#[]⟩,x,p⟩,m)
def tkO (s:ByteArray) (p:Nat):Option (Tok × Nat) :=
 if Cs (byt s p)=true then (if nmO s p<=12 then some (⟨1,s.extract p (p + nmO s p),set0,p⟩,p + nmO s p) else none)
 else if byt s p=34 then B6v p (txtO s (p:Int))
 else if byt s p=91 then B4Q p (clsO s (p:Int))
 else if sgO s p=0 then none else some (⟨4,s.extract p (p + sgO s p),set0,p⟩,p + sgO s p)
def nextO (s:ByteArray) (k:Nat):Option (Tok × Nat):=if s.size<=skO s k then some (⟨0,⟨#[]⟩,set0,s.size⟩,s.size) else tkO s (skO s k)
def wL (p:Nat):Option (Tok × Nat)->Value
 | none=>.tuple #[zU ⟨0,⟨#[]⟩,set0,p⟩,.int .i64 (p:Int),.bool false]
 | some (t,m)=>.tuple #[zU t,.int .i64 (m:Int),.bool true]
def Di (s:ByteArray) (k:Nat):Value:=wL (skO s k) (nextO s k)
theorem QM {s:ByteArray} {k p:Nat} (h:skO s k=p) (hp:s.size<=p):Di s k=.tuple #[zU ⟨0,⟨#[]⟩,set0,s.size⟩,.int .i64 (s.size:Int),.bool true]:=by unfold Di nextO;rw [h,if_pos hp];rfl
theorem A0k {s:ByteArray} {k p:Nat} (h:skO s k=p) (hp:¬ s.size<=p):Di s k=wL p (tkO s p):=by unfold Di nextO;rw [h,if_neg hp]
theorem qY (lo hi:Nat) (hl:lo < 256) (hh:hi < 256) (w:World) :
  Calls Tryz.prog 154 #[.int .u8 (lo:Int),.int .u8 (hi:Int)] w
   fun e w'=>e=.returned (.agg #[.int .u64 (bQ 0 lo (hi + 1):Int),.int .u64 (bQ 1 lo (hi + 1):Int),.int .u64 (bQ 2 lo (hi + 1):Int),.int .u64 (bQ 3 lo (hi + 1):Int)])/\Below w.heap.size w w':=by
 go_enter Tryz.func154,Tryz.ntmps154;go_wp2
 go_loopw [6] (fun b wr=>∃ m:Nat,lo<=m/\(m<=hi + 1\/m=lo)/\b=.int .i64 (m:Int)/\Own wr w.heap.size 29 [.int .u64 0,.int .u64 0,.int .u64 0,.int .u64 0] ∧
   Own wr (w.heap.size + 1) 29 [.int .u64 (bQ 0 lo m:Int),.int .u64 (bQ 1 lo m:Int),.int .u64 (bQ 2 lo m:Int),.int .u64 (bQ 3 lo m:Int)]/\Below w.heap.size w wr)
  (fun b _=>hi + 1 - (intOf b).toNat)
 case atStart=>
  refine ⟨lo,Nat.le_refl _,.inr rfl,rfl,(Own.fresh w _ _).on_alloc _,?_,by go_grown⟩;simp only [Qz];exact Own.fresh' (by simp) _ _
 case round =>
  obtain ⟨m,hm1,hm2,rfl,ho,hs,hb⟩:=hrel;obtain ⟨o0,o1,o2,o3,q0,q1,q2,q3⟩:=ho.four;obtain ⟨s0,s1,s2,s3,r0,r1,r2,r3⟩:=hs.four;by_cases hlt:m<=hi
  ·
   go_wp2_with fail;refine (Fx _ _ _ _ _ (by omega) (eZ ..) (eZ ..) (eZ ..) (eZ ..) _).mono ?_;rintro e w1 ⟨rfl,hb1⟩;have ho1:=ho.under hb1 ho.lt;have hs1:=hs.under hb1 hs.lt;clear o0 o1 o2 o3 q0 q1 q2 q3 s0 s1 s2 s3 r0 r1 r2 r3;obtain ⟨s0,s1,s2,s3,r0,r1,r2,r3⟩:=hs1.four;go_wp2
   go_roundw
   case rel =>
    refine ⟨m + 1,by omega,by omega,by go_num,ho1.off4 (by omega) _ _ _ _,?_,aR (hb.trans (hb1.mono hb.size)) (by omega) _ _ _ _⟩;simp only [Yr hm1];exact hs1.put4
   case measure=>simp [intOf];omega
  · have E (i:Nat):=A1s (i:=i) hlt hm2;have H:=aH E;clear E;go_wp2;rw [aW];have hF:=(p4 ho (.int .u64 (bQ 0 lo m:Int)) (.int .u64 (bQ 1 lo m:Int)) (.int .u64 (bQ 2 lo m:Int)) (.int .u64 (bQ 3 lo m:Int)));have hB:=aR hb (Nat.le_refl _) (.int .u64 (bQ 0 lo m:Int)) (.int .u64 (bQ 1 lo m:Int)) (.int .u64 (bQ 2 lo m:Int)) (.int .u64 (bQ 3 lo m:Int));obtain ⟨z0,z1,z2,z3,-⟩:=hF.four;refine bodyPost_ret (by simp [results,Tryz.results154,go_sem,z0,z1,z2,z3];rfl) rfl ?_;exact ⟨pY (by rw [H.o]) (by rw [H.o]) (by rw [H.o]) (by rw [H.o]),hB⟩
def Ed (s:ByteArray) (a f k:Nat) (x:bO):Option (bO × Nat):=if a < k/\bG s (k:Int) 93=true then some (x,k) else rwsF s f k x
theorem ZC {s:ByteArray} {a f:Nat} {x:bO}:Ed s a f a x=rwsF s f a x:=by unfold Ed;rw [if_neg (by omega)]
theorem FH {s:ByteArray} {a f k:Nat} {x:bO} (h:bG s (k:Int) 93=false):Ed s a f k x=rwsF s f k x:=by unfold Ed;rw [if_neg (by rw [h];simp)]
theorem A7B {s:ByteArray} {a f k:Nat} {x:bO} (h:bG s (k:Int) 93=true):Ed s a f k x=if a < k then some (x,k) else none:=by
 unfold Ed;by_cases g:a < k
 · rw [if_pos ⟨g,h⟩,if_pos g]
 · rw [if_neg (fun q=>g q.1),if_neg g,xX (LC h)]
theorem FE {s:ByteArray} {a f k m lo hi:Nat} {x:bO} (ha:a<=k) (hf:s.size < f + k) (h:rowO s k=some ((lo,hi),m)):rwsF s f k x=Ed s a (f - 1) m (orR x lo hi):=by
 have:=xW h;rw [Ic hf h];unfold Ed;by_cases g:bG s (m:Int) 93=true
 · rw [if_pos g,if_pos ⟨by omega,g⟩]
 · rw [if_neg g,if_neg (fun q=>g q.2)]
def B9M (o:Option (bO × Nat)) (a:Nat) (e:Ending):Prop:=∃ (X0 X1 X2 X3 n:Nat) (b:Bool),
 e=.returned (.tuple #[.agg #[.int .u64 (X0:Int),.int .u64 (X1:Int),.int .u64 (X2:Int),.int .u64 (X3:Int)],.int .i64 (n:Int),.bool b]) ∧
 ((o=none/\(b=false\/n=a))\/(b=true/\a < n/\o=some ((X0,X1,X2,X3),n)))
set_option maxRecDepth 100000 in
theorem LG (s:ByteArray) (hs:s.size<=1000000) (a:Nat) (ha:a<=1000100) (w:World) :
  Calls Tryz.prog 131 #[.string s,.int .i64 (a:Int)] w fun e w'=>B9M (rwsF s (s.size + 1) a set0) a e/\Below w.heap.size w w':=by
 have HT0:=aH (show Ed s a (s.size + 1) a set0=rwsF s (s.size + 1) a set0/\s.size < s.size + 1 + a/\a<=a/\fits set0 from ⟨ZC,by omega,Nat.le_refl _,nD⟩);obtain ⟨o,ho⟩:∃ o,rwsF s (s.size + 1) a set0=o:=⟨_,rfl⟩;rw [ho] at HT0 ⊢;clear ho;have HO0:=aH ((Own.fresh w 29 [.int .u64 0,.int .u64 0,.int .u64 0,.int .u64 0]).on_alloc (.cells #[.int .u64 0,.int .u64 0,.int .u64 0,.int .u64 0] 29));have HX0:=aH (Own.fresh' (w:=w.alloc (.cells #[.int .u64 0,.int .u64 0,.int .u64 0,.int .u64 0] 29)) (g:=w.heap.size + 1) (by simp) 29 [.int .u64 0,.int .u64 0,.int .u64 0,.int .u64 0]);have HB0:=aH (show Below w.heap.size w ((w.alloc (.cells #[.int .u64 0,.int .u64 0,.int .u64 0,.int .u64 0] 29)).alloc (.cells #[.int .u64 0,.int .u64 0,.int .u64 0,.int .u64 0] 29)) from (bA _).alloc (by simp) _);go_enter Tryz.func131,Tryz.ntmps131;go_wp2_with fail
 go_loopw [1] (fun b1 wr=>∃ (k f X0 X1 X2 X3:Nat),b1=.int .i64 (k:Int)/\(k:Int)<=1100000/\aQ (Ed s a f k (X0,X1,X2,X3)=o/\s.size < f + k/\a<=k/\fits (X0,X1,X2,X3))/\aQ (Own wr w.heap.size 29 [.int .u64 0,.int .u64 0,.int .u64 0,.int .u64 0])/\aQ (Own wr (w.heap.size + 1) 29 [.int .u64 (X0:Int),.int .u64 (X1:Int),.int .u64 (X2:Int),.int .u64 (X3:Int)])/\aQ (Below w.heap.size w wr)) (fun b1 _=>1200000 - (intOf b1).toNat)
 case atStart=>exact ⟨a,s.size + 1,0,0,0,0,rfl,by omega,HT0,HO0,HX0,HB0⟩
 case round =>
  obtain ⟨k,f,X0,X1,X2,X3,rfl,hk,HTT,HO,HX,HB⟩:=hrel;clear HT0 HO0 HX0 HB0;by_cases hlt:(k:Int) < s.size
  ·
   have hk1:k < s.size:=(by omega);obtain ⟨c,hc⟩:∃ c:Int,(s[k].toNat:Int)=c:=⟨_,rfl⟩;have hbc:byt s k=c:=(by rw [dI hk1,hc]);by_cases h3:c=93
   · subst h3;have hst:bG s (k:Int) 93=true:=fP.2 ⟨hk1,hbc⟩;have HE:=aH (show o=if a < k then some ((X0,X1,X2,X3),k) else none from by rw [<- HTT.o.1,A7B hst]);have HA:=aH HTT.o.2.2.1;clear HTT hbc hst;obtain ⟨z0,z1,z2,z3,y0,y1,y2,y3⟩:=HO.o.four;obtain ⟨x0,x1,x2,x3,-⟩:=HX.o.four;go_wp2;rw [aW];have hF:=(p4 HO.o (.int .u64 (X0:Int)) (.int .u64 (X1:Int)) (.int .u64 (X2:Int)) (.int .u64 (X3:Int)));have hB:=aR HB.o (Nat.le_refl _) (.int .u64 (X0:Int)) (.int .u64 (X1:Int)) (.int .u64 (X2:Int)) (.int .u64 (X3:Int));clear z0 z1 z2 z3 y0 y1 y2 y3;obtain ⟨z0,z1,z2,z3,-⟩:=hF.four;refine bodyPost_ret (by simp [results,Tryz.results131,go_sem,z0,z1,z2,z3];rfl) rfl ?_;exact ⟨⟨X0,X1,X2,X3,k,_,rfl,(by by_cases g:a < k;exact .inr ⟨rfl,g,by rw [HE.o,if_pos g]⟩;exact .inl ⟨by rw [HE.o,if_neg g],.inr (by have:=HA.o;omega)⟩)⟩,hB⟩
   ·
    have e3:(c == 93)=false:=aN.2 h3;have e3':(c != 93)=true:=(by simp [h3]);have hst:bG s (k:Int) 93=false:=(by rw [gG hk1,hbc];exact e3);have HW:=aH (show rwsF s f k (X0,X1,X2,X3)=o by rw [<- HTT.o.1,FH hst]);have HT:=aH HTT.o.2;clear HTT hbc hst e3 h3;have HR:=aH (fun W=>EQ s hs k (by omega) W)
    cases hq:sglO s k with
    | none =>
     have HE:=aH (show o=none by rw [<- HW.o,xX (rV hq)]);rw [hq] at HR;simp only [Ku] at HR;clear hq HW HT;go_wp2_with fail;refine (HR.o _).mono ?_;rintro e w2 ⟨he,hb2⟩;subst he;have HO2:=aH (HO.o.under hb2 HO.o.lt);have HX2:=aH (HX.o.under hb2 HX.o.lt);have HB2:=aH (aD HB.o hb2);clear hb2 HO HX HB;obtain ⟨z0,z1,z2,z3,y0,y1,y2,y3⟩:=HO2.o.four;go_wp2;rw [aW];have hF:=(p4 HO2.o (.int .u64 0) (.int .u64 0) (.int .u64 0) (.int .u64 0));have hB:=aR HB2.o (Nat.le_refl _) (.int .u64 0) (.int .u64 0) (.int .u64 0) (.int .u64 0);clear z0 z1 z2 z3 y0 y1 y2 y3;obtain ⟨z0,z1,z2,z3,-⟩:=hF.four;refine bodyPost_ret (by simp [results,Tryz.results131,go_sem,z0,z1,z2,z3];rfl) rfl ?_;exact ⟨⟨0,0,0,0,0,false,rfl,.inl ⟨HE.o,.inl rfl⟩⟩,hB⟩
    | some p =>
     obtain ⟨c1,m⟩:=p;obtain ⟨b1,b2,b3,b4,b5⟩:=Dm hq;obtain ⟨lo,rfl⟩:∃ lo:Nat,c1=(lo:Int):=⟨c1.toNat,by omega⟩;have hlo:lo < 256:=(by omega);rw [hq] at HR;simp only [Ku] at HR;obtain ⟨bd,hd⟩:∃ bd,bG s (m:Int) 45=bd:=⟨_,rfl⟩
     cases bd
     ·
      have hrow:=yL hq hd;rw [Int.toNat_natCast] at hrow;clear hq;by_cases hm:(m:Int) < s.size
      ·
       have hm1:m < s.size:=(by omega);obtain ⟨d,hdd⟩:∃ d:Int,(s[m].toNat:Int)=d:=⟨_,rfl⟩;have hd1:(d == 45)=false:=(by rw [<- hd,gG hm1,dI hm1,hdd]);clear hd;go_wp2_with fail;refine (HR.o _).mono ?_;rintro e w2 ⟨he,hb2⟩;subst he;have HO2:=aH (HO.o.under hb2 HO.o.lt);have HX2:=aH (HX.o.under hb2 HX.o.lt);have HB2:=aH (aD HB.o hb2);clear hb2 HO HX HB;have HG:=aH (fun W=>qY lo lo hlo hlo W);have HR3:=aH (fun W=>Ob X0 X1 X2 X3 (bQ 0 lo (lo + 1)) (bQ 1 lo (lo + 1)) (bQ 2 lo (lo + 1)) (bQ 3 lo (lo + 1)) HT.o.2.2.1 HT.o.2.2.2.1 HT.o.2.2.2.2.1 HT.o.2.2.2.2.2 (eZ ..) (eZ ..) (eZ ..) (eZ ..) W);have HT2:=aH (show Ed s a (f - 1) m (orR (X0,X1,X2,X3) lo lo)=o/\s.size < (f - 1) + m/\a<=m/\fits (orR (X0,X1,X2,X3) lo lo) from ⟨by rw [<- HW.o];exact (FE (by have:=HT.o.2.1;omega) HT.o.1 hrow).symm,by have:=HT.o.1;omega,by have:=HT.o.2.1;omega,qU HT.o.2.2 lo lo⟩);clear HT HW hrow;obtain ⟨x0,x1,x2,x3,v0,v1,v2,v3⟩:=HX2.o.four;have hxl:=HX2.o.lt;go_upto_region 11 with fail
       go_region_law (first
        | (go_simp;go_at_call 154;refine (HG.o _).mono ?_;rintro e wy ⟨rfl,hby⟩;have HOY:=aH (HO2.o.on_drew.under hby HO2.o.on_drew.lt);have HXY:=aH (HX2.o.on_drew.under hby HX2.o.on_drew.lt);have HBY:=aH (aD (HB2.o.trans ((Below.refl _ _).drew)) hby);clear hby;obtain ⟨xx0,xx1,xx2,xx3,-⟩:=HXY.o.four)
        | (go_simp;go_at_call 153;refine (HR3.o _).mono ?_;rintro e wz ⟨rfl,hbz⟩;have HOZ:=aH (HOY.o.under hbz HOY.o.lt);have HXZ:=aH (HXY.o.under hbz HXY.o.lt);have HBZ:=aH (aD HBY.o hbz);clear hbz;obtain ⟨xz0,xz1,xz2,xz3,vz0,vz1,vz2,vz3⟩:=HXZ.o.four))
       all_goals go_simp
       all_goals go_wp2
       all_goals go_roundw
       case rel=>exact ⟨m,f - 1,_,_,_,_,rfl,by omega,HT2,aH (HOZ.o.off4 (by omega) _ _ _ _),aH (HXZ.o.put4),aH (aR HBZ.o (by omega) _ _ _ _)⟩
       case measure=>simp [intOf];omega
       case rel=>exact ⟨m,f - 1,_,_,_,_,rfl,by omega,HT2,aH (HOZ.o.off4 (by omega) _ _ _ _),aH (HXZ.o.put4),aH (aR HBZ.o (by omega) _ _ _ _)⟩
       case measure=>simp [intOf];omega
      ·
       have hm2:decide ((m:Int) < (s.size:Int))=false:=aF hm;clear hd;go_wp2_with fail;refine (HR.o _).mono ?_;rintro e w2 ⟨he,hb2⟩;subst he;have HO2:=aH (HO.o.under hb2 HO.o.lt);have HX2:=aH (HX.o.under hb2 HX.o.lt);have HB2:=aH (aD HB.o hb2);clear hb2 HO HX HB;have HG:=aH (fun W=>qY lo lo hlo hlo W);have HR3:=aH (fun W=>Ob X0 X1 X2 X3 (bQ 0 lo (lo + 1)) (bQ 1 lo (lo + 1)) (bQ 2 lo (lo + 1)) (bQ 3 lo (lo + 1)) HT.o.2.2.1 HT.o.2.2.2.1 HT.o.2.2.2.2.1 HT.o.2.2.2.2.2 (eZ ..) (eZ ..) (eZ ..) (eZ ..) W);have HT2:=aH (show Ed s a (f - 1) m (orR (X0,X1,X2,X3) lo lo)=o/\s.size < (f - 1) + m/\a<=m/\fits (orR (X0,X1,X2,X3) lo lo) from ⟨by rw [<- HW.o];exact (FE (by have:=HT.o.2.1;omega) HT.o.1 hrow).symm,by have:=HT.o.1;omega,by have:=HT.o.2.1;omega,qU HT.o.2.2 lo lo⟩);clear HT HW hrow;obtain ⟨x0,x1,x2,x3,v0,v1,v2,v3⟩:=HX2.o.four;have hxl:=HX2.o.lt;go_upto_region 11 with fail
       go_region_law (first
        | (go_simp;go_at_call 154;refine (HG.o _).mono ?_;rintro e wy ⟨rfl,hby⟩;have HOY:=aH (HO2.o.on_drew.under hby HO2.o.on_drew.lt);have HXY:=aH (HX2.o.on_drew.under hby HX2.o.on_drew.lt);have HBY:=aH (aD (HB2.o.trans ((Below.refl _ _).drew)) hby);clear hby;obtain ⟨xx0,xx1,xx2,xx3,-⟩:=HXY.o.four)
        | (go_simp;go_at_call 153;refine (HR3.o _).mono ?_;rintro e wz ⟨rfl,hbz⟩;have HOZ:=aH (HOY.o.under hbz HOY.o.lt);have HXZ:=aH (HXY.o.under hbz HXY.o.lt);have HBZ:=aH (aD HBY.o hbz);clear hbz;obtain ⟨xz0,xz1,xz2,xz3,vz0,vz1,vz2,vz3⟩:=HXZ.o.four))
       all_goals go_simp
       all_goals go_wp2
       all_goals go_roundw
       case rel=>exact ⟨m,f - 1,_,_,_,_,rfl,by omega,HT2,aH (HOZ.o.off4 (by omega) _ _ _ _),aH (HXZ.o.put4),aH (aR HBZ.o (by omega) _ _ _ _)⟩
       case measure=>simp [intOf];omega
       case rel=>exact ⟨m,f - 1,_,_,_,_,rfl,by omega,HT2,aH (HOZ.o.off4 (by omega) _ _ _ _),aH (HXZ.o.put4),aH (aR HBZ.o (by omega) _ _ _ _)⟩
       case measure=>simp [intOf];omega
     ·
      have hE:=yM hq hd;obtain ⟨hm1,hbm⟩:=fP.1 hd;have hdd:(s[m].toNat:Int)=45:=(by rw [<- dI hm1,hbm]);have hm:(m:Int) < s.size:=(by omega);have HR2:=aH (fun W=>EQ s hs (m + 1) (by omega) W);rw [show ((m + 1:Nat):Int)=(m:Int) + 1 by omega] at HR2;clear hq hd hbm
      cases hq:sglO s (m + 1) with
      | none =>
       have HE:=aH (show o=none by rw [<- HW.o,xX (hE.trans (by rw [hq]))]);rw [hq] at HR2;simp only [Ku] at HR2;clear hq hE HW HT;go_wp2_with fail;refine (HR.o _).mono ?_;rintro e w2 ⟨he,hb2⟩;subst he;have HO2:=aH (HO.o.under hb2 HO.o.lt);have HX2:=aH (HX.o.under hb2 HX.o.lt);have HB2:=aH (aD HB.o hb2);clear hb2 HO HX HB;go_wp2_with fail;refine (HR2.o _).mono ?_;rintro e w3 ⟨he,hb3⟩;subst he;have HO3:=aH (HO2.o.under hb3 HO2.o.lt);have HX3:=aH (HX2.o.under hb3 HX2.o.lt);have HB3:=aH (aD HB2.o hb3);clear hb3 HO2 HX2 HB2;obtain ⟨z0,z1,z2,z3,y0,y1,y2,y3⟩:=HO3.o.four;go_wp2;rw [aW];have hF:=(p4 HO3.o (.int .u64 0) (.int .u64 0) (.int .u64 0) (.int .u64 0));have hB:=aR HB3.o (Nat.le_refl _) (.int .u64 0) (.int .u64 0) (.int .u64 0) (.int .u64 0);clear z0 z1 z2 z3 y0 y1 y2 y3;obtain ⟨z0,z1,z2,z3,-⟩:=hF.four;refine bodyPost_ret (by simp [results,Tryz.results131,go_sem,z0,z1,z2,z3];rfl) rfl ?_;exact ⟨⟨0,0,0,0,0,false,rfl,.inl ⟨HE.o,.inl rfl⟩⟩,hB⟩
      | some p =>
       obtain ⟨c2,m'⟩:=p;obtain ⟨b6,b7,b8,b9,b10⟩:=Dm hq;obtain ⟨hi,rfl⟩:∃ hi:Nat,c2=(hi:Int):=⟨c2.toNat,by omega⟩;have hhi:hi < 256:=(by omega);rw [hq] at HR2 hE;simp only [Ku] at HR2;clear hq;by_cases g:(hi:Int) < (lo:Int)
       · have HE:=aH (show o=none by rw [<- HW.o,xX (hE.trans (if_pos g))]);clear hE HW HT;go_wp2_with fail;refine (HR.o _).mono ?_;rintro e w2 ⟨he,hb2⟩;subst he;have HO2:=aH (HO.o.under hb2 HO.o.lt);have HX2:=aH (HX.o.under hb2 HX.o.lt);have HB2:=aH (aD HB.o hb2);clear hb2 HO HX HB;go_wp2_with fail;refine (HR2.o _).mono ?_;rintro e w3 ⟨he,hb3⟩;subst he;have HO3:=aH (HO2.o.under hb3 HO2.o.lt);have HX3:=aH (HX2.o.under hb3 HX2.o.lt);have HB3:=aH (aD HB2.o hb3);clear hb3 HO2 HX2 HB2;obtain ⟨z0,z1,z2,z3,y0,y1,y2,y3⟩:=HO3.o.four;go_wp2;rw [aW];have hF:=(p4 HO3.o (.int .u64 0) (.int .u64 0) (.int .u64 0) (.int .u64 0));have hB:=aR HB3.o (Nat.le_refl _) (.int .u64 0) (.int .u64 0) (.int .u64 0) (.int .u64 0);clear z0 z1 z2 z3 y0 y1 y2 y3;obtain ⟨z0,z1,z2,z3,-⟩:=hF.four;refine bodyPost_ret (by simp [results,Tryz.results131,go_sem,z0,z1,z2,z3];rfl) rfl ?_;exact ⟨⟨0,0,0,0,0,false,rfl,.inl ⟨HE.o,.inl rfl⟩⟩,hB⟩
       ·
        have hrow:=hE.trans (if_neg g);rw [Int.toNat_natCast,Int.toNat_natCast] at hrow;have g2:decide ((hi:Int) < (lo:Int))=false:=aF g;clear hE;go_wp2_with fail;refine (HR.o _).mono ?_;rintro e w2 ⟨he,hb2⟩;subst he;have HO2:=aH (HO.o.under hb2 HO.o.lt);have HX2:=aH (HX.o.under hb2 HX.o.lt);have HB2:=aH (aD HB.o hb2);clear hb2 HO HX HB;go_wp2_with fail;refine (HR2.o _).mono ?_;rintro e w3 ⟨he,hb3⟩;subst he;have HO3:=aH (HO2.o.under hb3 HO2.o.lt);have HX3:=aH (HX2.o.under hb3 HX2.o.lt);have HB3:=aH (aD HB2.o hb3);clear hb3 HO2 HX2 HB2;have HG:=aH (fun W=>qY lo hi hlo hhi W);have HR3:=aH (fun W=>Ob X0 X1 X2 X3 (bQ 0 lo (hi + 1)) (bQ 1 lo (hi + 1)) (bQ 2 lo (hi + 1)) (bQ 3 lo (hi + 1)) HT.o.2.2.1 HT.o.2.2.2.1 HT.o.2.2.2.2.1 HT.o.2.2.2.2.2 (eZ ..) (eZ ..) (eZ ..) (eZ ..) W);have HT2:=aH (show Ed s a (f - 1) m' (orR (X0,X1,X2,X3) lo hi)=o/\s.size < (f - 1) + m'/\a<=m'/\fits (orR (X0,X1,X2,X3) lo hi) from ⟨by rw [<- HW.o];exact (FE (by have:=HT.o.2.1;omega) HT.o.1 hrow).symm,by have:=HT.o.1;omega,by have:=HT.o.2.1;omega,qU HT.o.2.2 lo hi⟩);clear HT HW hrow;obtain ⟨x0,x1,x2,x3,v0,v1,v2,v3⟩:=HX3.o.four;have hxl:=HX3.o.lt;go_upto_region 11 with fail
        go_region_law (first
         | (go_simp;go_at_call 154;refine (HG.o _).mono ?_;rintro e wy ⟨rfl,hby⟩;have HOY:=aH (HO3.o.on_drew.under hby HO3.o.on_drew.lt);have HXY:=aH (HX3.o.on_drew.under hby HX3.o.on_drew.lt);have HBY:=aH (aD (HB3.o.trans ((Below.refl _ _).drew)) hby);clear hby;obtain ⟨xx0,xx1,xx2,xx3,-⟩:=HXY.o.four)
         | (go_simp;go_at_call 153;refine (HR3.o _).mono ?_;rintro e wz ⟨rfl,hbz⟩;have HOZ:=aH (HOY.o.under hbz HOY.o.lt);have HXZ:=aH (HXY.o.under hbz HXY.o.lt);have HBZ:=aH (aD HBY.o hbz);clear hbz;obtain ⟨xz0,xz1,xz2,xz3,vz0,vz1,vz2,vz3⟩:=HXZ.o.four))
        all_goals go_simp
        all_goals go_wp2
        all_goals go_roundw
        case rel=>exact ⟨m',f - 1,_,_,_,_,rfl,by omega,HT2,aH (HOZ.o.off4 (by omega) _ _ _ _),aH (HXZ.o.put4),aH (aR HBZ.o (by omega) _ _ _ _)⟩
        case measure=>simp [intOf];omega
        case rel=>exact ⟨m',f - 1,_,_,_,_,rfl,by omega,HT2,aH (HOZ.o.off4 (by omega) _ _ _ _),aH (HXZ.o.put4),aH (aR HBZ.o (by omega) _ _ _ _)⟩
        case measure=>simp [intOf];omega
  · have hst:bG s (k:Int) 93=false:=jR (by omega);have HE:=aH (show o=none by rw [<- HTT.o.1,FH hst,xX (rV (rY (mF (by omega))))]);have hlt2:decide ((k:Int) < (s.size:Int))=false:=aF hlt;clear HTT hst;obtain ⟨z0,z1,z2,z3,y0,y1,y2,y3⟩:=HO.o.four;obtain ⟨x0,x1,x2,x3,-⟩:=HX.o.four;go_wp2;rw [aW];have hF:=(p4 HO.o (.int .u64 (X0:Int)) (.int .u64 (X1:Int)) (.int .u64 (X2:Int)) (.int .u64 (X3:Int)));have hB:=aR HB.o (Nat.le_refl _) (.int .u64 (X0:Int)) (.int .u64 (X1:Int)) (.int .u64 (X2:Int)) (.int .u64 (X3:Int));clear z0 z1 z2 z3 y0 y1 y2 y3;obtain ⟨z0,z1,z2,z3,-⟩:=hF.four;refine bodyPost_ret (by simp [results,Tryz.results131,go_sem,z0,z1,z2,z3];rfl) rfl ?_;exact ⟨⟨X0,X1,X2,X3,k,_,rfl,.inl ⟨HE.o,.inl rfl⟩⟩,hB⟩
end Go.Proofs.YthkdnehgamefiaaGreat
