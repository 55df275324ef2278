import Derived.Test.YthkdnehgamefiaaGreatHp
namespace Go.Proofs.YthkdnehgamefiaaGreat
set_option linter.unusedVariables false
set_option maxRecDepth 1000000
section
variable {P:Program} {ops:Array Oper} {Q:Exit->Act->World->Prop} {md:Region.Mode} {S:World->Prop}
end
open Go.RowKit Go.Sort
theorem DL {NN:Nat} {L:List Tok} (HN:∀ k,(tkA L k).kd ≠ 0->k < NN) {s:List UInt8} {k m:Nat} (h:oO L s k=.ok m):m=k + 1/\m<=NN:=by
 unfold oO at h;split at h
 · rename_i hw;injection h with h;subst h;unfold wdB at hw;rw [Bool.and_eq_true,beq_iff_eq] at hw;exact ⟨rfl,HN k (by rw [hw.1];decide)⟩
 · cases h
theorem A5H {NN:Nat} {L:List Tok} (HN:∀ k,(tkA L k).kd ≠ 0->k < NN) {k m:Nat} {x:Ex} (h:uW L k=.ok (x,m)):k < m/\m<=NN:=by
 unfold uW at h
 cases h1:oO L [61] k with
 | error e=>simp [h1] at h
 | ok k1 =>
  have b1:=DL HN h1;simp only [h1] at h
  cases h2:rdO L k1 with
  | error e=>simp [h2] at h
  | ok p =>
   obtain ⟨y,j⟩:=p;simp only [h2] at h;have b2:k1 < j/\j<=NN:=by
    unfold rdO at h2
    cases h4:exO L 12 k1 with
    | error e=>simp [h4] at h2
    | ok q =>
     obtain ⟨z,i⟩:=q;have:=Jg HN 12 k1 z i h4;simp only [h4] at h2;split at h2
     · unfold jW at h2;cases h2
     · injection h2 with h2;injection h2 with _ h3;omega
   cases h3:oO L [59] j with
   | error e=>simp [h3] at h
   | ok j' =>
    have b3:=DL HN h3;simp only [h3] at h;injection h with h;injection h with _ h;omega
theorem B8d {NN:Nat} {L:List Tok} (HN:∀ k,(tkA L k).kd ≠ 0->k < NN) {k m:Nat} {x:Ex} (h:rdO L k=.ok (x,m)):k < m/\m<=NN:=by
 unfold rdO at h
 cases h4:exO L 12 k with
 | error e=>simp [h4] at h
 | ok q =>
  obtain ⟨z,i⟩:=q;have:=Jg HN 12 k z i h4;simp only [h4] at h;split at h
  · unfold jW at h;cases h
  · injection h with h;injection h with _ h3;omega
def B7f (x:Ex):Except Ft2 Nat->Rs
 | .error e=>.error e
 | .ok m'=>.ok (x,m')
def B7e (L:List Tok):Rs->Rs
 | .error e=>.error e
 | .ok (x,m)=>B7f x (oO L [59] m)
def B9Z (L:List Tok):Except Ft2 Nat->Rs
 | .error e=>.error e
 | .ok k1=>B7e L (rdO L k1)
theorem B7a (L:List Tok) (k:Nat):uW L k=B9Z L (oO L [61] k):=by
 unfold uW
 cases oO L [61] k with
 | error e=>rfl
 | ok k1 =>
  show _=B7e L (rdO L k1)
  cases h:rdO L k1 with
  | error e=>simp only [h];rfl
  | ok p =>
   obtain ⟨x,m⟩:=p;simp only [h];show _=B7f x (oO L [59] m)
   cases h2:oO L [59] m <;> rfl
def RdR (r:Rs) (lo hi:Nat) (X:Ex) (ko:Option Addr) (m f1 f2:Int) (w:World):Prop:=match r with
 | .ok (x,j)=>X=x/\m=(j:Int)/\f1=0/\f2=0/\∃ n,fM w (fun b=>lo<=b/\b < hi) n ko x.kids
 | .error f=>f1=f.1/\f2=f.2/\f.1 ≠ 0
theorem RdR.keep {S:Nat->Prop} {r:Rs} {lo hi:Nat} {X:Ex} {ko:Option Addr} {m f1 f2:Int} {w w':World} (h:RdR r lo hi X ko m f1 f2 w) (hb:But S w w') (hS:∀ b,S b->b < lo\/hi<=b):RdR r lo hi X ko m f1 f2 w':=by
 cases r with
 | error f=>exact h
 | ok p =>
  obtain ⟨x,j⟩:=p;obtain ⟨e1,e2,e3,e4,n,h3⟩:=h;exact ⟨e1,e2,e3,e4,n,h3.but hb fun b _ hr hs=>by have:=hS b hs;omega⟩
theorem RdR.of {r:Rs} {D:Nat} {e:Ending} {w':World} (h:RdE D r e w'):∃ (X:Ex) (ko:Option Addr) (kc:Nat) (m f1 f2:Int),e=.returned (.tuple #[.agg #[.int .i64 X.op,.string X.text,.int .u64 X.s0,.int .u64 X.s1,.int .u64 X.s2,.int .u64 X.s3,.slice ko X.kids.length kc],.int .i64 m,.agg #[.int .i64 f1,.int .i64 f2,.int .i64 0,.int .i64 0]])/\RdR r D w'.heap.size X ko m f1 f2 w':=by
 cases r with
 | error f =>
  obtain ⟨h1,h2⟩:=h;exact ⟨ex0,none,0,0,f.1,f.2,h1,rfl,rfl,h2⟩
 | ok p =>
  obtain ⟨x,j⟩:=p;obtain ⟨ko,kc,n,h1,h2⟩:=h;exact ⟨x,ko,kc,j,0,0,h1,rfl,rfl,rfl,rfl,n,fM.ofE h2⟩
theorem Pd.fin {w w3:World} {g N k0 k:Nat} {lo:Option Addr} {lc:Nat} {L:List Tok} {F0 F:Option Ft2} (H0:Pd w g lo lc L k0 F0) (hN:w.heap.size<=N) (HU:But (fun j=>j=g) w w3) (H3:Pd w3 g lo lc L k F) (u0 u1 u2 u3 u4 u5 u6:Value) :
  But (fun j=>j=g) w (bI w3 N u0 u1 u2 u3 u4 u5 u6)/\Pd (bI w3 N u0 u1 u2 u3 u4 u5 u6) g lo lc L k F:=by
 have hU:But (fun j=>j=g) w (bI w3 N u0 u1 u2 u3 u4 u5 u6):=HU.trans (But.set7 w3 N u0 u1 u2 u3 u4 u5 u6) (fun j hj e=>by omega);have hg:=H0.1.lt;exact ⟨hU,H3.1.but (But.set7 w3 N u0 u1 u2 u3 u4 u5 u6) (by omega),H0.2.1.but H0.2.2.1 hU,H0.2.2.1,H3.2.2.2⟩
end Go.Proofs.YthkdnehgamefiaaGreat
