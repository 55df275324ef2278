import Derived.Test.YthkdnehgamefiaaGreatHj
import Derived.Test.YthkdnehgamefiaaGreatWx
namespace Go.Proofs.YthkdnehgamefiaaGreat
set_option linter.unusedVariables false
set_option maxRecDepth 1000000
open Go.ChangeShapes Go.WideShapes Go.ChangeAt Go.RowKit Go.Deep
theorem Tg:∃ f0 f1 f2 f3:Field,Tryz.prog.underlying 32=some (.struct #[f0,f1,f2,f3])/\f0.type=3/\f1.type=9/\f2.type=29/\f3.type=30 ∧
  f0.offset=0/\f1.offset=1/\f2.offset=2/\f3.offset=6:=⟨_,_,_,_,Tryz.underlying32,rfl,rfl,rfl,rfl,rfl,rfl,rfl,rfl⟩
theorem lK:Tryz.prog.cellsOf 32=7:=by kernel_rfl
theorem Al:Tryz.prog.cellsOf 3=1:=by kernel_rfl
theorem Ao:Tryz.prog.cellsOf 9=1:=by kernel_rfl
theorem Am:Tryz.prog.cellsOf 29=4:=by kernel_rfl
theorem Ap:Tryz.prog.cellsOf 27=1:=by kernel_rfl
theorem yB:Tryz.prog.cellsOf 30=1:=by kernel_rfl
theorem Aj {b off:Nat} (i j:Nat):((⟨b,off,none⟩:Addr).add i).add j=⟨b,off + i + j,none⟩:=by rw [Addr.add_lit,Addr.add_lit]
section
variable {H:Type} {enc:TypeId × Value->H} {W:World} {sp:Nat->Bool} {held:Bool}
theorem oN {α:Type} {n:Nat} {P:Nat->α->Prop} (h:∀ k,k < n->∃ x,P k x):∃ L:List α,L.length=n/\∀ k x,L[k]?=some x->P k x:=by
 induction n with
 | zero=>exact ⟨[],rfl,fun k x h=>by simp at h⟩
 | succ n ih =>
  obtain ⟨L,hl,hL⟩:=ih fun k hk=>h k (by omega);obtain ⟨x,hx⟩:=h n (by omega);refine ⟨L ++ [x],by simp [hl],fun k y hk=>?_⟩;by_cases c:k < n
  · rw [List.getElem?_append_left (by omega)] at hk;exact hL k y hk
  · have hk':k < (L ++ [x]).length:=(aS.1 hk).1;simp at hk';obtain rfl:k=n:=(by omega);rw [List.getElem?_append_right (by omega),hl] at hk;simp at hk;subst hk;exact hx
theorem qE {c:Value} {m:Nat} {y:DataW H × List MemPlace} (h:DataW.trod enc Tryz.prog W 0 sp held m 27 [c]=some y):∃ a:Int,c=.int .u64 a/\0<=a/\a < P64:=by obtain ⟨a,e0,_,wa⟩:=DataW.trod_int Tryz.underlying27 h;have hb:=bounds_u64 wa;exact ⟨a,by simpa using e0,by omega,by unfold P64;omega⟩
theorem Cz (f:Nat) (ih:∀ g,g < f->∀ (c:Value) (x:DataW H × List MemPlace),DataW.trod enc Tryz.prog W 0 sp held g 30 [c]=some x->∃ (K:List Ex) (ao:Option Addr) (cap:Nat),c=.slice ao K.length cap/\aV W g ao K/\(∀ (n k:Nat) (y:Ex),K[k]?=some y->bW n y))
  (cs:List Value) (x:DataW H × List MemPlace) (h:DataW.trod enc Tryz.prog W 0 sp held f 32 cs=some x) :
  ∃ (X:Ex) (ko:Option Addr) (kc:Nat),cs=[.int .i64 X.op,.string X.text,.int .u64 X.s0,.int .u64 X.s1,.int .u64 X.s2,.int .u64 X.s3,.slice ko X.kids.length kc]/\aV W f ko X.kids/\(∀ n,bW n X):=by
 obtain ⟨f0,f1,f2,f3,hu,t0,t1,t2,t3,o0,o1,o2,o3⟩:=Tg;obtain ⟨ys,n,hn,_,hcl,hyl,hfd⟩:=DataW.trod_struct hu h;subst hn;rw [lK] at hcl;have g0:=hfd 0 f0 rfl;have g1:=hfd 1 f1 rfl;have g2:=hfd 2 f2 rfl;have g3:=hfd 3 f3 rfl;rw [t0,o0,Al] at g0;rw [t1,o1,Ao] at g1;rw [t2,o2,Am] at g2;rw [t3,o3,yB] at g3
 match cs,hcl,ys,hyl with
 | [c0,c1,c2,c3,c4,c5,c6],_,[y0,y1,y2,y3],_ =>
  simp at g0 g1 g2 g3;obtain ⟨x0,r0,_,_⟩:=DataW.trod_int Tryz.underlying3 g0;obtain ⟨x1,r1,_⟩:=DataW.trod_string Tryz.underlying9 g1;simp at r0 r1;subst r0 r1;obtain ⟨xs,m,_,_,_,hl,hg⟩:=DataW.trod_array Tryz.underlying29 g2;rw [Ap] at hg
  match xs,hl with
  | [z0,z1,z2,z3],_ =>
   have k0:=hg 0 (by decide);have k1:=hg 1 (by decide);have k2:=hg 2 (by decide);have k3:=hg 3 (by decide);simp at k0 k1 k2 k3;obtain ⟨a,rfl,p0,q0⟩:=qE k0;obtain ⟨b,rfl,p1,q1⟩:=qE k1;obtain ⟨c,rfl,p2,q2⟩:=qE k2;obtain ⟨d,rfl,p3,q3⟩:=qE k3;obtain ⟨K,ko,kc,rfl,hk,hsets⟩:=ih n (by omega) _ _ g3;refine ⟨.mk x0 x1 a b c d K,ko,kc,rfl,hk.more,fun n=>?_⟩
   cases n with
   | zero=>trivial
   | succ n=>exact ⟨⟨⟨p0,q0⟩,⟨p1,q1⟩,⟨p2,q2⟩,⟨p3,q3⟩⟩,fun k y hy=>hsets n k y hy⟩
theorem Uf:∀ (f:Nat) (c:Value) (x:DataW H × List MemPlace),DataW.trod enc Tryz.prog W 0 sp held f 30 [c]=some x->∃ (K:List Ex) (ao:Option Addr) (cap:Nat),c=.slice ao K.length cap/\aV W f ao K/\(∀ (n k:Nat) (y:Ex),K[k]?=some y->bW n y):=by
 intro f
 induction f using Nat.strongRecOn with
 | ind f ih =>
  intro c x h;rcases DataW.trod_slice Tryz.underlying30 h with ⟨hcs,_⟩ | ⟨a,len,cap,elems,rest,n,hn,hcs,_,hb,hl,hm,hlen,hel,_,_⟩
  · simp at hcs;subst hcs;exact ⟨[],none,0,rfl,aV.nil _ _ _,fun n k y h=>by simp at h⟩
  ·
   simp at hcs;subst hcs hn;have hspot:0 < len->a.spot=none:=fun h0=>by have hk1:=hel 0 h0;rw [aG (by omega)] at hk1;obtain ⟨cs',hc,_⟩:=Option.bind_eq_some_iff.1 hk1;rw [lK] at hc;obtain ⟨_,hcl2,hat⟩:=World.cells?_some hc;have w0:=hat 0 (by omega);rw [aG (by omega)] at w0;have:=World.cell?_spot w0;simpa [Addr.add] using this
   have each:∀ k,k < len->∃ X:Ex,∃ g off ko kc,some a=some ⟨g,off,none⟩/\g < W.heap.size ∧
     W.cell? ⟨g,off + k * 7,none⟩=some (.int .i64 X.op)/\W.cell? ⟨g,off + k * 7 + 1,none⟩=some (.string X.text) ∧
     W.cell? ⟨g,off + k * 7 + 2,none⟩=some (.int .u64 X.s0)/\W.cell? ⟨g,off + k * 7 + 3,none⟩=some (.int .u64 X.s1) ∧
     W.cell? ⟨g,off + k * 7 + 4,none⟩=some (.int .u64 X.s2)/\W.cell? ⟨g,off + k * 7 + 5,none⟩=some (.int .u64 X.s3) ∧
     W.cell? ⟨g,off + k * 7 + 6,none⟩=some (.slice ko X.kids.length kc)/\aV W n ko X.kids/\(∀ n,bW n X):=fun k hk=>by
    have hk1:=hel k hk;rw [aG (by omega)] at hk1;obtain ⟨cs',hc,ht⟩:=Option.bind_eq_some_iff.1 hk1;rw [lK] at hc;obtain ⟨X,ko,kc,rfl,hkk,hss⟩:=Cz n (fun g hg=>ih g (by omega)) cs' _ ht;obtain ⟨_,hcl2,hat⟩:=World.cells?_some hc;have w0:=hat 0 (by omega);have w1:=hat 1 (by omega);have w2:=hat 2 (by omega);have w3:=hat 3 (by omega);have w4:=hat 4 (by omega);have w5:=hat 5 (by omega);have w6:=hat 6 (by omega);have hs:a.spot=none:=hspot (by omega);obtain ⟨b,off,spot⟩:=a;obtain rfl:spot=none:=hs;have e (j:Nat):((⟨b,off,none⟩:Addr).add (k * 7)).add j=⟨b,off + k * 7 + j,none⟩:=Aj _ _;rw [e] at w0 w1 w2 w3 w4 w5 w6;exact ⟨X,b,off,ko,kc,rfl,World.block_lt_of_cell? W _ w0,w0,w1,w2,w3,w4,w5,w6,hkk,hss⟩
   obtain ⟨L,hL,hk⟩:=oN each;refine ⟨L,some a,cap,by rw [hL],fun k X hX=>?_,fun m k X hX=>?_⟩
   · obtain ⟨g,off,ko,kc,e0,e1,c0,c1,c2,c3,c4,c5,c6,r,_⟩:=hk k X hX;exact ⟨g,off,ko,kc,e0,e1,c0,c1,c2,c3,c4,c5,c6,r⟩
   · obtain ⟨g,off,ko,kc,e0,e1,c0,c1,c2,c3,c4,c5,c6,r,s⟩:=hk k X hX;exact s m
end
end Go.Proofs.YthkdnehgamefiaaGreat
