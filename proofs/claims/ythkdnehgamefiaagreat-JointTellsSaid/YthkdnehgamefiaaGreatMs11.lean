import Derived.Test.YthkdnehgamefiaaGreatFl11
import Derived.Test.YthkdnehgamefiaaGreatPr11
namespace Go.Proofs.YthkdnehgamefiaaGreat
set_option linter.unusedVariables false
open Go.RowKit Go.Sort
def MsIn (w:World) (D n:Nat) (z:Mz):Prop:=nJ w (fun b=>D<=b) z.io z.m.im/\dD w D n z.ko z.m.wa.kids/\sN w D n z.ro z.m.ru/\z.m.im.length<=z.ic/\z.m.ru.length<=z.rc
theorem MsIn.below {w w':World} {D n:Nat} {z:Mz} (h:MsIn w D n z) (hb:Below w.heap.size w w'):MsIn w' D n z :=
 ⟨h.1.but (But.of_below (S:=fun _=>False) hb) (fun _ _ _ h=>h),dD.but (But.of_below (S:=fun _=>False) hb) (fun _ h=>h.elim) h.2.1,h.2.2.1.but (But.of_below (S:=fun _=>False) hb) (fun _ h=>h.elim),h.2.2.2⟩
theorem fK.two {w:World} {D:Nat} {mo:Option Addr} {m0 m1:Md} (h:fK w D mo [m0,m1]):∃ (n b off:Nat) (z0 z1:Mz),mo=some ⟨b,off,none⟩/\b < w.heap.size/\z0.m=m0/\z1.m=m1/\MsIn w D n z0/\MsIn w D n z1 ∧
  (∀ j,j < 11->w.cell? ⟨b,off + j,none⟩=(iD z0)[j]?)/\(∀ j,j < 11->w.cell? ⟨b,off + 11 + j,none⟩=(iD z1)[j]?):=by
 obtain ⟨n,h⟩:=h;obtain ⟨b,off,io,ic,ko,kc,ro,rc,e,hlt,hD,c0,c1,c2,c3,c4,c5,c6,c7,c8,c9,cA,q1,q2,q3⟩:=h 0 m0 rfl;obtain ⟨b',off',io',ic',ko',kc',ro',rc',e',hlt',hD',d0,d1,d2,d3,d4,d5,d6,d7,d8,d9,dA,p1,p2,p3⟩:=h 1 m1 rfl;rw [e] at e';injection e' with e';injection e' with e1 e2;subst e1 e2;simp only [Nat.zero_mul,Nat.add_zero,Nat.one_mul] at c0 c1 c2 c3 c4 c5 c6 c7 c8 c9 cA d0 d1 d2 d3 d4 d5 d6 d7 d8 d9 dA;refine ⟨n,b,off,⟨m0,io,ic,ko,kc,ro,rc⟩,⟨m1,io',ic',ko',kc',ro',rc'⟩,e,hlt,rfl,rfl,⟨q1,q2,q3,hD.2.1,hD.2.2⟩,⟨p1,p2,p3,hD'.2.1,hD'.2.2⟩,fun j hj=>?_,fun j hj=>?_⟩
 ·
  obtain rfl | rfl | rfl | rfl | rfl | rfl | rfl | rfl | rfl | rfl | rfl:j=0\/j=1\/j=2\/j=3\/j=4\/j=5\/j=6\/j=7\/j=8\/j=9\/j=10:=by omega
  all_goals first | exact c0 | exact c1 | exact c2 | exact c3 | exact c4 | exact c5 | exact c6 | exact c7 | exact c8 | exact c9 | exact cA
 ·
  obtain rfl | rfl | rfl | rfl | rfl | rfl | rfl | rfl | rfl | rfl | rfl:j=0\/j=1\/j=2\/j=3\/j=4\/j=5\/j=6\/j=7\/j=8\/j=9\/j=10:=by omega
  all_goals first | exact d0 | exact d1 | exact d2 | exact d3 | exact d4 | exact d5 | exact d6 | exact d7 | exact d8 | exact d9 | exact dA
theorem hasMs_win {S:Nat->Prop} {w:World} {D n c m:Nat} {ao:Option Addr} {Z:List Mz} (hw:Win S 35 11 w (.slice ao m c) Z.length (Z.flatMap iD)) (hS:∀ b,S b->D<=b) (hZ:∀ z ∈ Z,MsIn w D n z):fK w D ao (Z.map (·.m)):=by
 refine ⟨n,fun k x hx=>?_⟩;have hk:k < Z.length:=by have:=(aS.1 hx).1;simpa using this
 obtain ⟨z,hz⟩:∃ z,Z[k]?=some z:=⟨_,aG hk⟩;obtain rfl:z.m=x:=by rw [List.getElem?_map,hz] at hx;simpa using hx
 obtain ⟨ao',cap,e1,_,_,hf⟩:=hw.form;injection e1 with e1 e2 e3;subst e1;have get:∀ j,j < 11->∃ g off,ao=some ⟨g,off,none⟩/\S g/\g < w.heap.size/\w.cell? ⟨g,off + (k * 11 + j),none⟩=(iD z)[j]?:=fun j hj=>by obtain ⟨g,off,e,hs,hg,hc,_⟩:=hf (k * 11 + j) (by omega);exact ⟨g,off,e,hs,hg,by rw [hc,A0g Z k j z hz hj]⟩
 obtain ⟨g,off,e,hs,hg,c0⟩:=get 0 (by omega);subst e;have get2:∀ j,j < 11->w.cell? ⟨g,off + (k * 11 + j),none⟩=(iD z)[j]?:=fun j hj=>by obtain ⟨g',off',e,_,_,hc⟩:=get j hj;injection e with e;injection e with e4 e5;subst e4 e5;exact hc
 obtain ⟨q1,q2,q3,q4⟩:=hZ z (aM hz);exact ⟨g,off,z.io,z.ic,z.ko,z.kc,z.ro,z.rc,rfl,hg,⟨hS g hs,q4⟩,c0,get2 1 (by omega),get2 2 (by omega),get2 3 (by omega),get2 4 (by omega),get2 5 (by omega),get2 6 (by omega),get2 7 (by omega),get2 8 (by omega),get2 9 (by omega),get2 10 (by omega),q1,q2,q3⟩
theorem hasMs_own {w:World} {D n b:Nat} {Z:List Mz} (ho:Own w b 35 (Z.flatMap iD)) (hD:D<=b) (hl:Z.length<=1000) (hZ:∀ z ∈ Z,MsIn w D n z):fK w D (some ⟨b,0,none⟩) (Z.map (·.m)):=by
 refine ⟨n,fun k x hx=>?_⟩;have hk:k < Z.length:=by have:=(aS.1 hx).1;simpa using this
 obtain ⟨z,hz⟩:∃ z,Z[k]?=some z:=⟨_,aG hk⟩;obtain rfl:z.m=x:=by rw [List.getElem?_map,hz] at hx;simpa using hx
 have get2:∀ j,j < 11->w.cell? ⟨b,0 + (k * 11 + j),none⟩=(iD z)[j]?:=fun j hj=>by rw [Nat.zero_add,ho.cell (k * 11 + j),A0g Z k j z hz hj]
 obtain ⟨q1,q2,q3,q4⟩:=hZ z (aM hz);exact ⟨b,0,z.io,z.ic,z.ko,z.kc,z.ro,z.rc,rfl,ho.lt,⟨hD,q4⟩,get2 0 (by omega),get2 1 (by omega),get2 2 (by omega),get2 3 (by omega),get2 4 (by omega),get2 5 (by omega),get2 6 (by omega),get2 7 (by omega),get2 8 (by omega),get2 9 (by omega),get2 10 (by omega),q1,q2,q3⟩
def mdK:Md:=⟨⟨#[107]⟩,[],false,ex0,[(⟨#[97]⟩,.mk 11 ⟨#[98]⟩ 0 0 0 0 [])]⟩
def mini1:Md:=lG.getD 1 md0
theorem mini_two:lG=[lT,mini1]:=by kernel_rfl
theorem ex11_id2:ftJ (iW lG ⟨#[105,100]⟩)=.agg #[.int .i64 0,.int .i64 0,.int .i64 0,.int .i64 0]:=by kernel_rfl
theorem ex11_x:ftJ (iW lG ⟨#[120]⟩)=.agg #[.int .i64 5,.int .i64 0,.int .i64 (-1),.int .i64 (-1)]:=by kernel_rfl
theorem ex11_bad:ftJ (iW [lT] ⟨#[109,97,105,110]⟩)=.agg #[.int .i64 5,.int .i64 0,.int .i64 0,.int .i64 (-1)]:=by kernel_rfl
theorem ex11_twice:ftJ (iW [lT,mini1,lT] ⟨#[109,97,105,110]⟩)=.agg #[.int .i64 4,.int .i64 0,.int .i64 2,.int .i64 (-1)]:=by kernel_rfl
theorem ex11_none:ftJ (iW [mdK,lT,mini1] ⟨#[97]⟩)=.agg #[.int .i64 5,.int .i64 0,.int .i64 0,.int .i64 0]:=by kernel_rfl
theorem ex11_ns0:(bR.ns[0]?).map (fun x=>(x.op,x.ru))=some (4,-1):=by kernel_rfl
theorem ex11_ns8:(bR.ns[8]?).map (·.op)=some 6:=by kernel_rfl
theorem ex11_ns10:(bR.ns[10]?).map (·.tg)=some 1:=by kernel_rfl
theorem ex11_ns11:(bR.ns[11]?).map (·.ru)=some 1:=by kernel_rfl
theorem ex11_hs0:bR.hs[0]?=some ⟨0,⟨#[109,97,105,110]⟩,8⟩:=by kernel_rfl
theorem ex11_hs2:(bR.hs[2]?).map (·.mo)=some 1:=by kernel_rfl
theorem ex11_ws:bR.ws=[0,-1]:=by kernel_rfl
theorem ex11_len:bR.ns.length=23/\bR.hs.length=3/\bR.ws.length=2:=⟨by kernel_rfl,by kernel_rfl,by kernel_rfl⟩
end Go.Proofs.YthkdnehgamefiaaGreat
