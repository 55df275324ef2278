import Derived.Test.YthkdnehgamefiaaGreatHr
namespace Go.Proofs.YthkdnehgamefiaaGreat
set_option linter.unusedVariables false
set_option maxRecDepth 1000000
open Go.RowKit Go.Sort
@[go_sem 2000] theorem C0g (k:Int) (A:Option Addr) (n c:Nat) (w:World):(Instr.build 32 #[(0,.int .i64 k),(3,.slice A n c)]).run Tryz.prog w=.ok (.agg #[.int .i64 k,.string ⟨#[]⟩,.int .u64 0,.int .u64 0,.int .u64 0,.int .u64 0,.slice A n c]) w:=by kernel_rfl
theorem fH {w:World} {g:Nat} {v0 v1 v2 v3 v4 v5 v6:Value} (h:Own w g 32 [v0,v1,v2,v3,v4,v5,v6]) (a:Int) (b:ByteArray) (c d e f:Int) (A:Option Addr) (n m:Nat) :
  (Instr.storeAt 32 (.pointer (some ⟨g,0,none⟩)) (.agg #[.int .i64 a,.string b,.int .u64 c,.int .u64 d,.int .u64 e,.int .u64 f,.slice A n m])).run Tryz.prog w=.ok () (bI w g (.int .i64 a) (.string b) (.int .u64 c) (.int .u64 d) (.int .u64 e) (.int .u64 f) (.slice A n m)):=by
 obtain ⟨z0,z1,z2,z3,z4,z5,z6,y0,y1,y2,y3,y4,y5,y6⟩:=h.seven2;have zl:=h.lt;rw [<- aU];go_simp
section
variable {P:Program} {Q:Exit->Act->World->Prop}
theorem Zn {ops:Array Oper} {rest:List Oper} {o:Oper} {a:Act} {w w':World} (hg:o.guard=none) (t:TypeId) (x y:Operand) (hop:o.op=Op.store t x y) (p v:Value) (hx:a.eval x=p) (hy:a.eval y=v)
  (hrun:(Instr.storeAt t p v).run P w=.ok () w') (h:wpList P ops Q rest (a.put o.dst undef) w'):wpList P ops Q (o :: rest) a w:=by
 refine wpList_plain hg fun K hK'=>?_;unfold Oper.wp;simp [execOp,hop,hx,hy,hrun,Result.andThen];exact hK' _ _ h
end
theorem aK {P:Program} {Q:Exit->Act->World->Prop} {ops:Array Oper} {rest:List Oper} {a:Act} {w w':World} {dst:Option Tmp} {ty:TypeId} {ps:String} {af:Array Edge} {t:TypeId} {x y:Operand} (p v:Value)
  (hrun:(Instr.storeAt t p v).run P w=.ok () w') (hx:a.eval x=p) (hy:a.eval y=v) (h:wpList P ops Q rest (a.put dst undef) w'):wpList P ops Q (Oper.mk dst (Op.store t x y) ty ps af none :: rest) a w :=
 Zn rfl t x y rfl p v hx hy hrun h
theorem jU.kid {w0 w:World} {g m B D:Nat} {lo:Option Addr} {lc:Nat} {L:List Tok} {x:Ex} {ko:Option Addr} {kc n:Nat} (op:Int) (tx:ByteArray) (H:Rd w g lo lc L m none) (hB:Own w B 32 [.int .i64 x.op,.string x.text,.int .u64 x.s0,.int .u64 x.s1,.int .u64 x.s2,.int .u64 x.s3,.slice ko x.kids.length kc]) (hD:D<=B) (hE:dD w D n ko x.kids) :
  jU w0 g lo lc L (.ok (.mk op tx 0 0 0 0 [x],m)) D (.mk op tx 0 0 0 0 [x]) (some ⟨B,0,none⟩) w :=
 ⟨H,rfl,n + 1,fun k y hy=>by
  have hk:k=0:=by have:=(aS.1 hy).1;have:k < 1:=this;omega
  subst hk;obtain rfl:x=y:=by have h:([x]:List Ex)[0]?=some y:=hy;simpa using h
  exact ⟨B,0,ko,kc,rfl,hB.lt,hD,hB.cell 0,hB.cell 1,hB.cell 2,hB.cell 3,hB.cell 4,hB.cell 5,hB.cell 6,hE⟩⟩
def Bd (L:List Tok) (k:Nat) (r:Rs):Prop:=∀ x m,r=.ok (x,m)->k < m/\m<=L.length
theorem Bd.err {L:List Tok} {k:Nat} (e:Int × Int):Bd L k (.error e):=fun x m h=>by cases h
theorem Bd.ok {L:List Tok} {k n:Nat} {x:Ex} (h:k < n) (h':n<=L.length):Bd L k (.ok (x,n)):=fun y m e=>by
 obtain ⟨rfl,rfl⟩:x=y/\n=m:=by simpa using e
 exact ⟨h,h'⟩
theorem Bd.low {L:List Tok} {k k':Nat} {r:Rs} (h:Bd L k r) (hk:k'<=k):Bd L k' r:=fun x m e=>⟨by have:=(h x m e).1;omega,(h x m e).2⟩
theorem Bd.map {L:List Tok} {k:Nat} {r:Rs} {f:Ex->Ex} (h:Bd L k r):Bd L k (Qh f r):=by
 cases r with
 | error e=>exact Bd.err e
 | ok p =>
  obtain ⟨x,m⟩:=p;exact Bd.ok (h x m rfl).1 (h x m rfl).2
theorem B6J {L:List Tok} {k:Nat} (h:(tkA L k).kd=1):Bd L k (yX L k):=by
 have h0:k < L.length:=MJ (by rw [h];decide);unfold yX;split
 ·
  split
  ·
   split
   · rename_i h3;simp at h3;have:=MJ (L:=L) (k:=k + 2) (by rw [h3.1];decide);exact Bd.ok (by omega) (by omega)
   · exact Bd.err _
  · exact Bd.ok (by omega) (by omega)
 · exact Bd.err _
theorem A1L {L:List Tok} {X:Nat->Rs} {big:Bool} (hX:∀ j,Bd L j (X j)) (k:Nat):Bd L k (tyZ L X big k):=by
 unfold tyZ;split
 · rename_i h;have:=MJ (L:=L) (k:=k) (by rw [h];decide);exact Bd.ok (by omega) (by omega)
 split
 · rename_i h;have:=MJ (L:=L) (k:=k) (by rw [h];decide);exact Bd.ok (by omega) (by omega)
 split
 · rename_i h;exact B6J h
 split
 · rename_i h;have:=xB h;exact Bd.ok (by omega) (by omega)
 split
 ·
  split
  · exact Bd.err _
  ·
   cases hx:X (k + 1) with
   | error e=>exact Bd.err e
   | ok p =>
    obtain ⟨x,m⟩:=p;have h1:=hX (k + 1) x m hx;show Bd L k (if isS L m [41]=true then _ else _);split
    · rename_i h2;have:=xB h2;exact Bd.ok (by omega) (by omega)
    · exact Bd.err _
 · exact Bd.err _
theorem A6Y {L:List Tok} {X:Nat->Rs} {big:Bool} (hX:∀ j,Bd L j (X j)) (k:Nat):Bd L k (jG L X big k):=by
 unfold jG
 cases hp:tyZ L X big k with
 | error e=>exact Bd.err e
 | ok p =>
  obtain ⟨x,m⟩:=p;have h1:=A1L hX k x m hp;show Bd L k (if isS L m [42]=true then _ else if isS L m [43]=true then _ else if isS L m [63]=true then _ else _);split
  · rename_i h2;have:=xB h2;exact Bd.ok (by omega) (by omega)
  split
  · rename_i h2;have:=xB h2;exact Bd.ok (by omega) (by omega)
  split
  · rename_i h2;have:=xB h2;exact Bd.ok (by omega) (by omega)
  · exact Bd.ok h1.1 h1.2
theorem Dk {L:List Tok} {X:Nat->Rs} {big:Bool} (hX:∀ j,Bd L j (X j)) (k:Nat):Bd L k (preO L X big k):=by
 have hS:=A6Y (big:=big) hX;unfold preO;split
 · exact ((hS (k + 1)).low (by omega)).map
 split
 · exact ((hS (k + 1)).low (by omega)).map
 split
 ·
  cases hp:jG L X big (k + 1) with
  | error e=>exact Bd.err e
  | ok p =>
   obtain ⟨x,m⟩:=p;have h1:=hS (k + 1) x m hp;show Bd L k (if isS L m [126]=true then _ else _);split
   · rename_i h2;have:=xB h2;exact Bd.ok (by omega) (by omega)
   · exact Bd.err _
 split
 ·
  split
  · exact ((hS (k + 2)).low (by omega)).map
  · exact Bd.err _
 · exact hS k
theorem A6Q {L:List Tok} {pre:Nat->Rs} (hp:∀ j,Bd L j (pre j)):∀ (f:Nat) (A K:List Ex) (k m:Nat),k<=L.length->yY L pre f A k=.ok (K,m)->k<=m/\m<=L.length
 | 0,A,K,k,m,hk,h=>by simp [yY] at h;omega
 | f + 1,A,K,k,m,hk,h=>by
  unfold yY at h;split at h
  ·
   cases hq:pre k with
   | error e=>simp [hq] at h
   | ok p =>
    obtain ⟨x,n⟩:=p;have h1:=hp k x n hq;simp only [hq] at h;have h2:=A6Q hp f _ K n m h1.2 h;omega
  · simp at h;omega
theorem Og {L:List Tok} {pre:Nat->Rs} (hp:∀ j,Bd L j (pre j)) (k:Nat):Bd L k (lC L pre k):=by
 unfold lC
 cases hq:pre k with
 | error e=>exact Bd.err e
 | ok p =>
  obtain ⟨x,n⟩:=p;have h1:=hp k x n hq
  cases hl:yY L pre (L.length + 1) [x] n with
  | error e=>simp only [hl];exact Bd.err e
  | ok p =>
   obtain ⟨K,m⟩:=p;have h2:=A6Q hp _ _ K n m h1.2 hl;simp only [hl];exact Bd.ok (by omega) (by omega)
theorem A9V {L:List Tok} {pre:Nat->Rs} (hp:∀ j,Bd L j (pre j)):∀ (f:Nat) (A K:List Ex) (k m:Nat),k<=L.length->chL L pre f A k=.ok (K,m)->k<=m/\m<=L.length
 | 0,A,K,k,m,hk,h=>by simp [chL] at h;omega
 | f + 1,A,K,k,m,hk,h=>by
  unfold chL at h;split at h
  ·
   cases hq:pre (k + 1) with
   | error e=>simp [hq] at h
   | ok p =>
    obtain ⟨x,n⟩:=p;have h1:=hp (k + 1) x n hq;simp only [hq] at h;have h2:=A9V hp f _ K n m h1.2 h;omega
  · simp at h;omega
theorem A9Z {L:List Tok} {pre:Nat->Rs} (hp:∀ j,Bd L j (pre j)) (k:Nat):Bd L k (chO L pre k):=by
 unfold chO
 cases hq:pre k with
 | error e=>exact Bd.err e
 | ok p =>
  obtain ⟨x,n⟩:=p;have h1:=hp k x n hq
  cases hl:chL L pre (L.length + 1) [x] n with
  | error e=>simp only [hl];exact Bd.err e
  | ok p =>
   obtain ⟨K,m⟩:=p;have h2:=A9V hp _ _ K n m h1.2 hl;simp only [hl];exact Bd.ok (by omega) (by omega)
theorem Py {L:List Tok}:∀ d k,Bd L k (exO L d k)
 | 0,k=>A9Z (Og (Dk fun j=>Bd.err _)) k
 | d + 1,k=>A9Z (Og (Dk (Py d))) k
end Go.Proofs.YthkdnehgamefiaaGreat
