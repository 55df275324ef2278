import Derived.Laws.BitsAllLaws
import Derived.Test.YthkdnehgamefiaaGreatChecked
import Derived.Test.YthkdnehgamefiaaGreatHa
import Derived.WalkLawsBesides
import Derived.BigQuiet
import Derived.Deep.RegionHeld3
import Derived.Deep.DeepCutAuto
import Derived.RegionTactic
import Derived.Handy
namespace Go.Proofs.YthkdnehgamefiaaGreat
set_option linter.unusedVariables false
set_option maxHeartbeats 1000000
set_option maxRecDepth 1000000
open Go.RowKit
def P64:Nat:=18446744073709551616
def word (a b c d x:Nat):Nat:=match x / 64 with | 0=>a | 1=>b | 2=>c | _=>d
def dH (a b c d x:Nat):Bool:=(word a b c d x).testBit (x % 64)
def dK (a x i:Nat):Nat:=if x / 64=i then a ||| 2 ^ (x % 64) else a
def dU (a:Nat):Nat:=P64 - 1 - a
theorem A2i (a b c d x:Nat) (hx:x < 256) :
  [Value.int .u64 (a:Int),.int .u64 (b:Int),.int .u64 (c:Int),.int .u64 (d:Int)][x / 64]?=some (.int .u64 (word a b c d x:Int)):=by
 unfold word;have:x / 64=0\/x / 64=1\/x / 64=2\/x / 64=3:=by omega
 rcases this with h | h | h | h <;> rw [h] <;> rfl
theorem word_lt (a b c d x:Nat) (ha:a < P64) (hb:b < P64) (hc:c < P64) (hd:d < P64):word a b c d x < P64:=by unfold word;split <;> assumption
theorem B7Z (y r:Nat) (hy:y < P64):(bits .and .u64 ((y:Int) / 2 ^ r) 1 == 1)=y.testBit r:=by
 have h1:((y:Int) / 2 ^ r)=((y / 2 ^ r:Nat):Int):=by rw [Int.natCast_ediv,Int.natCast_pow];rfl
 have h2:y / 2 ^ r < 18446744073709551616:=Nat.lt_of_le_of_lt (Nat.div_le_self _ _) hy;rw [h1,show (1:Int)=((1:Nat):Int) from rfl,u64_and_nat _ _ h2 (by decide),Nat.testBit_eq_decide_div_mod_eq,Nat.and_one_is_mod];have:=Nat.mod_two_eq_zero_or_one (y / 2 ^ r);rcases this with h | h <;> rw [h] <;> rfl
theorem A5Y (a b c d x:Nat) (ha:a < P64) (hb:b < P64) (hc:c < P64) (hd:d < P64) :
  (bits .and .u64 ((word a b c d x:Int) / 2 ^ (x % 64)) 1 == 1)=dH a b c d x :=
 B7Z _ _ (word_lt a b c d x ha hb hc hd)
theorem B2P (x:Nat):2 ^ (x % 64) < 18446744073709551616:=by have:x % 64 < 64:=Nat.mod_lt _ (by decide);have h2:2 ^ (x % 64)<=2 ^ 63:=Nat.pow_le_pow_right (by decide) (by omega);exact Nat.lt_of_le_of_lt h2 (by decide)
theorem or_bit (a x:Nat) (ha:a < P64):bits .or .u64 (a:Int) (IntKind.u64.wrap (2 ^ (x % 64)))=((a ||| 2 ^ (x % 64):Nat):Int):=by
 have h1:((2:Int) ^ (x % 64))=((2 ^ (x % 64):Nat):Int):=by rw [Int.natCast_pow];rfl
 have h2:=B2P x;rw [h1];generalize 2 ^ (x % 64)=p at h2;have h3:IntKind.u64.wrap (p:Int)=(p:Int):=by rw [IntKind.wrap_u64];omega
 rw [h3,u64_or_nat _ _ ha h2]
theorem nY {a x i:Nat} (ha:a < P64):dK a x i < P64:=by
 unfold dK;split
 · exact Nat.or_lt_two_pow (n:=64) ha (B2P x)
 · exact ha
theorem yF (a:Nat) (ha:a < P64):bits .xor .u64 IntKind.u64.max (a:Int)=(dU a:Int):=by
 have hm:IntKind.u64.max=((18446744073709551615:Nat):Int):=by decide
 rw [hm,u64_xor_nat _ _ (by decide) ha];have h:=congrArg BitVec.toNat (BitVec.allOnes_xor (x:=BitVec.ofNat 64 a));rw [BitVec.toNat_xor,BitVec.toNat_not,BitVec.toNat_allOnes,BitVec.toNat_ofNat,show a % 2 ^ 64=a from Nat.mod_eq_of_lt ha] at h;exact congrArg Int.ofNat h
theorem iV (a:Nat):dU a < P64:=by unfold dU P64;omega
def JY:Nat->Nat->Nat
 | 0,_=>0
 | n + 1,a=>a % 2 + JY n (a / 2)
def pop (a:Nat):Nat:=JY 64 a
def card (a b c d:Nat):Nat:=pop a + pop b + pop c + pop d
theorem B5w (n:Nat):∀ a,JY n a<=n:=by
 induction n with
 | zero=>intro a;exact Nat.le_refl _
 | succ n ih=>intro a;have:=ih (a / 2);unfold JY;omega
theorem JZ (a:Nat):pop a<=64:=B5w 64 a
def bQ (i lo:Nat):Nat->Nat
 | 0=>0
 | m + 1=>if lo<=m then dK (bQ i lo m) m i else 0
theorem LF (i lo:Nat):∀ m,m<=lo->bQ i lo m=0:=by
 intro m h
 cases m with
 | zero=>rfl
 | succ m=>unfold bQ;rw [if_neg (by omega)]
theorem Qz (i lo:Nat):bQ i lo lo=0:=LF i lo lo (Nat.le_refl _)
theorem Yr {i lo m:Nat} (h:lo<=m):bQ i lo (m + 1)=dK (bQ i lo m) m i:=by rw [bQ,if_pos h]
theorem A1s {i lo m hi:Nat} (h:¬ m<=hi) (h2:m<=hi + 1\/m=lo):bQ i lo m=bQ i lo (hi + 1):=by
 by_cases e:m=hi + 1
 · rw [e]
 ·
  obtain rfl:m=lo:=by omega
  rw [Qz,LF i m (hi + 1) (by omega)]
theorem eZ (i lo m:Nat):bQ i lo m < P64:=by
 induction m with
 | zero=>unfold bQ P64;omega
 | succ m ih =>
  unfold bQ;split
  · exact nY ih
  · unfold P64;omega
theorem Iz (k a q m M:Nat) (ha:a < 2 ^ k) (hm:m < 2 ^ k):(2 ^ k * q + a) &&& (2 ^ k * M + m)=2 ^ k * (q &&& M) + (a &&& m):=by
 apply Nat.eq_of_testBit_eq;intro j;rw [Nat.testBit_and,Nat.testBit_two_pow_mul_add q ha,Nat.testBit_two_pow_mul_add M hm,Nat.testBit_two_pow_mul_add (q &&& M) (Nat.and_lt_two_pow a hm)];split
 · rw [Nat.testBit_and]
 · rw [Nat.testBit_and]
def mk1:Nat->Nat | 0=>0 | n + 1=>4 * mk1 n + 1
def mk2:Nat->Nat | 0=>0 | n + 1=>16 * mk2 n + 3
def mk4:Nat->Nat | 0=>0 | n + 1=>256 * mk4 n + 15
def prs:Nat->Nat->Nat | 0,_=>0 | n + 1,a=>4 * prs n (a / 4) + (a % 4 / 2 + a % 2)
def nbs:Nat->Nat->Nat | 0,_=>0 | n + 1,a=>16 * nbs n (a / 16) + ((a % 4 / 2 + a % 2) + (a / 4 % 4 / 2 + a / 4 % 2))
def bys:Nat->Nat->Nat | 0,_=>0 | n + 1,a=>256 * bys n (a / 256) + (((a % 4 / 2 + a % 2) + (a / 4 % 4 / 2 + a / 4 % 2)) + ((a / 16 % 4 / 2 + a / 16 % 2) + (a / 16 / 4 % 4 / 2 + a / 16 / 4 % 2)))
theorem and1 (x:Nat):x &&& 1=x % 2:=Nat.and_one_is_mod x
theorem B9P (x:Nat):x &&& 3=x % 4:=Nat.and_two_pow_sub_one_eq_mod x 2
theorem B8G (x:Nat):x &&& 15=x % 16:=Nat.and_two_pow_sub_one_eq_mod x 4
theorem step1 (n:Nat):∀ a,(a / 2 &&& mk1 n) + (a &&& mk1 n)=prs n a:=by
 induction n with
 | zero=>intro a;simp [mk1,prs]
 | succ n ih =>
  intro a;have h:=ih (a / 4);have e1:a / 2=2 ^ 2 * (a / 4 / 2) + (a % 4 / 2 + 2 * (a / 4 % 2)):=by omega
  have e2:a=2 ^ 2 * (a / 4) + a % 4:=by omega
  have e3:mk1 (n + 1)=2 ^ 2 * mk1 n + 1:=rfl;have r1:a / 2 &&& mk1 (n + 1)=2 ^ 2 * (a / 4 / 2 &&& mk1 n) + (a % 4 / 2 + 2 * (a / 4 % 2)) % 2:=by rw [e3,e1,Iz 2 _ _ _ _ (by omega) (by omega),and1]
  have r2:a &&& mk1 (n + 1)=2 ^ 2 * (a / 4 &&& mk1 n) + a % 4 % 2:=by
   conv=>lhs;rw [e3,e2,Iz 2 _ _ _ _ (by omega) (by omega),and1]
  rw [r1,r2];unfold prs;omega
theorem step2 (n:Nat):∀ a,(prs (2 * n) a / 4 &&& mk2 n) + (prs (2 * n) a &&& mk2 n)=nbs n a:=by
 induction n with
 | zero=>intro a;simp [mk2,prs,nbs]
 | succ n ih =>
  intro a;have h:=ih (a / 16);have e0:prs (2 * (n + 1)) a=4 * (4 * prs (2 * n) (a / 4 / 4) + (a / 4 % 4 / 2 + a / 4 % 2)) + (a % 4 / 2 + a % 2):=rfl;rw [show a / 4 / 4=a / 16 by omega] at e0;generalize prs (2 * n) (a / 16)=Y at h e0;rw [e0];have e1:(4 * (4 * Y + (a / 4 % 4 / 2 + a / 4 % 2)) + (a % 4 / 2 + a % 2)) / 4=2 ^ 4 * (Y / 4) + ((a / 4 % 4 / 2 + a / 4 % 2) + 4 * (Y % 4)):=by omega
  have e2:4 * (4 * Y + (a / 4 % 4 / 2 + a / 4 % 2)) + (a % 4 / 2 + a % 2)=2 ^ 4 * Y + (4 * (a / 4 % 4 / 2 + a / 4 % 2) + (a % 4 / 2 + a % 2)):=by omega
  have e3:mk2 (n + 1)=2 ^ 4 * mk2 n + 3:=rfl;rw [e1,e2,e3,Iz 4 _ _ _ _ (by omega) (by omega),Iz 4 _ _ _ _ (by omega) (by omega),B9P,B9P];unfold nbs;omega
theorem B5P (n:Nat) (a:Nat):nbs n a % 16<=4:=by
 cases n with
 | zero=>simp [nbs]
 | succ n=>unfold nbs;omega
theorem C0Y (n:Nat):∀ a,(nbs (2 * n) a / 16 + nbs (2 * n) a) &&& mk4 n=bys n a:=by
 induction n with
 | zero=>intro a;simp [mk4,bys]
 | succ n ih =>
  intro a;have h:=ih (a / 256);have e0:nbs (2 * (n + 1)) a=16 * (16 * nbs (2 * n) (a / 16 / 16) + ((a / 16 % 4 / 2 + a / 16 % 2) + (a / 16 / 4 % 4 / 2 + a / 16 / 4 % 2))) + ((a % 4 / 2 + a % 2) + (a / 4 % 4 / 2 + a / 4 % 2)):=rfl;rw [show a / 16 / 16=a / 256 by omega] at e0;have hl:=B5P (2 * n) (a / 256);generalize nbs (2 * n) (a / 256)=Z at h e0 hl;rw [e0];have g1:(a / 16 % 4 / 2 + a / 16 % 2) + (a / 16 / 4 % 4 / 2 + a / 16 / 4 % 2)<=4:=by omega
  have g2:(a % 4 / 2 + a % 2) + (a / 4 % 4 / 2 + a / 4 % 2)<=4:=by omega
  have e3:mk4 (n + 1)=2 ^ 8 * mk4 n + 15:=rfl;unfold bys;generalize (a / 16 % 4 / 2 + a / 16 % 2) + (a / 16 / 4 % 4 / 2 + a / 16 / 4 % 2)=d1 at g1;generalize (a % 4 / 2 + a % 2) + (a / 4 % 4 / 2 + a / 4 % 2)=d0 at g2;have e1:(16 * (16 * Z + d1) + d0) / 16 + (16 * (16 * Z + d1) + d0)=2 ^ 8 * (Z / 16 + Z) + (d0 + d1 + 16 * (d1 + Z % 16)):=by omega
  rw [e1,e3,Iz 8 _ _ _ _ (by omega) (by omega),B8G,h];omega
def p8 (a:Nat):Nat:=((a % 4 / 2 + a % 2) + (a / 4 % 4 / 2 + a / 4 % 2)) + ((a / 16 % 4 / 2 + a / 16 % 2) + (a / 16 / 4 % 4 / 2 + a / 16 / 4 % 2))
theorem AB (a:Nat):p8 a<=8:=by unfold p8;omega
theorem yA (n a:Nat):bys (n + 1) a=256 * bys n (a / 256) + p8 a:=rfl
theorem Kg (n a:Nat):JY (n + 8) a=p8 a + JY n (a / 256):=by have:JY (n + 8) a=a % 2 + (a / 2 % 2 + (a / 2 / 2 % 2 + (a / 2 / 2 / 2 % 2 + (a / 2 / 2 / 2 / 2 % 2 + (a / 2 / 2 / 2 / 2 / 2 % 2 + (a / 2 / 2 / 2 / 2 / 2 / 2 % 2 + (a / 2 / 2 / 2 / 2 / 2 / 2 / 2 % 2 + JY n (a / 2 / 2 / 2 / 2 / 2 / 2 / 2 / 2)))))))):=rfl;rw [this,show a / 2 / 2 / 2 / 2 / 2 / 2 / 2 / 2=a / 256 by omega];unfold p8;omega
theorem last (b0 b1 b2 b3 b4 b5 b6 b7 X1 X2 X3 X4 X5 X6 y:Nat) (h0:b0<=8) (h1:b1<=8) (h2:b2<=8) (h3:b3<=8) (h4:b4<=8) (h5:b5<=8) (h6:b6<=8) (h7:b7<=8)
  (x6:X6=256 * b7 + b6) (x5:X5=256 * X6 + b5) (x4:X4=256 * X5 + b4) (x3:X3=256 * X4 + b3) (x2:X2=256 * X3 + b2) (x1:X1=256 * X2 + b1) (hy:y=256 * X1 + b0) :
  ∃ y4 y5 y6,y4=y + y / 256/\y5=y4 + y4 / 65536/\y6=y5 + y5 / 4294967296/\y<=600000000000000000/\y4 < 2000000000000000000/\y5 < 3000000000000000000/\y6 < 4000000000000000000/\y6 % 128=b0 + b1 + b2 + b3 + b4 + b5 + b6 + b7:=by
 have g6:X6<=2056:=by omega
 have g5:X5<=526344:=by omega
 have g4:X4<=134744072:=by omega
 have g3:X3<=34494482440:=by omega
 have g2:X2<=8830587504648:=by omega
 have g1:X1<=2260630401189896:=by omega
 have g0:y<=578721382704613384:=by omega
 have d0:y / 256=X1:=by omega
 refine ⟨_,_,_,rfl,rfl,rfl,by omega,?_⟩;rw [d0];obtain ⟨U1,u1⟩:∃ U,U=X1 + X2:=⟨_,rfl⟩;obtain ⟨U2,u2⟩:∃ U,U=X2 + X3:=⟨_,rfl⟩;obtain ⟨U3,u3⟩:∃ U,U=X3 + X4:=⟨_,rfl⟩;obtain ⟨U4,u4⟩:∃ U,U=X4 + X5:=⟨_,rfl⟩;obtain ⟨U5,u5⟩:∃ U,U=X5 + X6:=⟨_,rfl⟩;obtain ⟨U6,u6⟩:∃ U,U=X6 + b7:=⟨_,rfl⟩;have e0:y + X1=256 * U1 + (b0 + b1):=by omega
 have e1:U1=256 * U2 + (b1 + b2):=by omega
 have e2:U2=256 * U3 + (b2 + b3):=by omega
 have e3:U3=256 * U4 + (b3 + b4):=by omega
 have e4:U4=256 * U5 + (b4 + b5):=by omega
 have e5:U5=256 * U6 + (b5 + b6):=by omega
 have e6:U6=256 * b7 + (b6 + b7):=by omega
 have k0:y + X1<=600000000000000000:=by omega
 clear g6 g5 g4 g3 g2 g1 g0 d0 x6 x5 x4 x3 x2 x1 hy u1 u2 u3 u4 u5 u6;generalize y + X1=U0 at e0 k0;have d1:U0 / 65536=U2:=by omega
 rw [d1];obtain ⟨V1,v1⟩:∃ U,U=U1 + U3:=⟨_,rfl⟩;obtain ⟨V2,v2⟩:∃ U,U=U2 + U4:=⟨_,rfl⟩;obtain ⟨V3,v3⟩:∃ U,U=U3 + U5:=⟨_,rfl⟩;obtain ⟨V4,v4⟩:∃ U,U=U4 + U6:=⟨_,rfl⟩;have f0:U0 + U2=256 * V1 + (b0 + b1 + b2 + b3):=by omega
 have f1:V1=256 * V2 + (b1 + b2 + b3 + b4):=by omega
 have f2:V2=256 * V3 + (b2 + b3 + b4 + b5):=by omega
 have f3:V3=256 * V4 + (b3 + b4 + b5 + b6):=by omega
 have f4:V4 % 256=b4 + b5 + b6 + b7:=by omega
 have k1:U0 + U2<=1200000000000000000:=by omega
 clear e0 e1 e2 e3 e4 e5 e6 v1 v2 v3 v4;generalize U0 + U2=V0 at f0 k1;clear d1;have q1:V0 / 65536=V2:=by clear f2 f3 f4;omega
 have q2:V2 / 65536=V4:=by clear f0 f1 f4;omega
 have d2:V0 / 4294967296=V4:=by rw [<- q2,<- q1];clear f0 f1 f2 f3 f4;omega
 rw [d2];have q3:V4<=V0:=by omega
 have r:(V0 + V4) % 128=b0 + b1 + b2 + b3 + b4 + b5 + b6 + b7:=by clear f1 f2 f3;omega
 clear f0 f1 f2 f3 f4;exact ⟨by omega,by omega,by omega,r⟩
theorem A3m (a:Nat) (ha:a < P64):∃ y1 y2 y3 y4 y5 y6:Nat,y1 < P64/\y2 < P64 ∧
  (a / 2 &&& 6148914691236517205) + (a &&& 6148914691236517205)=y1/\(y1 / 4 &&& 3689348814741910323) + (y1 &&& 3689348814741910323)=y2/\y2 / 16 + y2 < P64/\(y2 / 16 + y2) &&& 1085102592571150095=y3 ∧
  y4=y3 + y3 / 256/\y5=y4 + y4 / 65536/\y6=y5 + y5 / 4294967296/\y3 < 1000000000000000000/\y4 < 2000000000000000000/\y5 < 3000000000000000000/\y6 < 4000000000000000000/\y6 % 128=pop a:=by
 have s1:=step1 32 a;have s2:=step2 16 a;have s3:=C0Y 8 a;rw [show mk1 32=6148914691236517205 from by decide +kernel] at s1;rw [show mk2 16=3689348814741910323 from by decide +kernel] at s2;rw [show mk4 8=1085102592571150095 from by decide +kernel] at s3;have l1:prs 32 a<=12297829382473034410:=by have:=Nat.and_le_right (n:=a / 2) (m:=6148914691236517205);have:=Nat.and_le_right (n:=a) (m:=6148914691236517205);omega
 have l2:nbs 16 a<=7378697629483820646:=by have:=Nat.and_le_right (n:=prs (2 * 16) a / 4) (m:=3689348814741910323);have:=Nat.and_le_right (n:=prs (2 * 16) a) (m:=3689348814741910323);omega
 have x6:bys 2 (a / 256 / 256 / 256 / 256 / 256 / 256)=256 * p8 (a / 256 / 256 / 256 / 256 / 256 / 256 / 256) + p8 (a / 256 / 256 / 256 / 256 / 256 / 256):=by rw [yA,yA,show bys 0 (a / 256 / 256 / 256 / 256 / 256 / 256 / 256 / 256)=0 from rfl,Nat.mul_zero,Nat.zero_add]
 obtain ⟨y4,y5,y6,e4,e5,e6,b3,b4,b5,b6,hm⟩:=last _ _ _ _ _ _ _ _ _ _ _ _ _ _ _ (AB a) (AB _) (AB _) (AB _) (AB _) (AB _) (AB _) (AB _) x6 (yA 2 _) (yA 3 _) (yA 4 _) (yA 5 _) (yA 6 _) (yA 7 _);have hp:pop a=p8 a + p8 (a / 256) + p8 (a / 256 / 256) + p8 (a / 256 / 256 / 256) + p8 (a / 256 / 256 / 256 / 256) + p8 (a / 256 / 256 / 256 / 256 / 256) + p8 (a / 256 / 256 / 256 / 256 / 256 / 256) + p8 (a / 256 / 256 / 256 / 256 / 256 / 256 / 256):=by unfold pop;rw [Kg 56,Kg 48,Kg 40,Kg 32,Kg 24,Kg 16,Kg 8,Kg 0];unfold JY;omega
 refine ⟨_,_,_,y4,y5,y6,?_,?_,s1,s2,?_,s3,e4,e5,e6,Nat.lt_of_le_of_lt b3 (by decide),b4,b5,b6,by rw [hm,hp]⟩
 · unfold P64;omega
 · unfold P64;omega
 · unfold P64;have l2':nbs (2 * 8) a<=7378697629483820646:=l2;clear s1 s2 s3 hm hp;omega
theorem wrap_small {y:Nat} (h:y < P64):IntKind.u64.wrap (y:Int)=(y:Int):=by unfold P64 at h;rw [IntKind.wrap_u64];omega
theorem Xz (x y:Nat) (hx:x < P64) (hy:y < P64):bits .and .u64 (x:Int) (y:Int)=((x &&& y:Nat):Int):=u64_and_nat x y hx hy
theorem c2 (a:Nat):((a:Int) / 2)=((a / 2:Nat):Int):=by omega
theorem c4 (a:Nat):((a:Int) / 4)=((a / 4:Nat):Int):=by omega
theorem c16 (a:Nat):((a:Int) / 16 + (a:Int))=((a / 16 + a:Nat):Int):=by omega
theorem C1I (a:Nat):((a:Int) + (a:Int) / 256)=((a + a / 256:Nat):Int):=by omega
theorem B7h (a:Nat):((a:Int) + (a:Int) / 65536)=((a + a / 65536:Nat):Int):=by omega
theorem c32 (a:Nat):((a:Int) + (a:Int) / 4294967296)=((a + a / 4294967296:Nat):Int):=by omega
theorem B8C {y:Nat} (h:y < 4000000000000000000):y < P64:=by unfold P64;omega
theorem C1g (y p:Nat) (h:y < 4000000000000000000) (hm:y % 128=p) (hp:p<=64):bits .and .i64 (wrap64 (y:Int)) 127=(p:Int):=by
 have h1:wrap64 (y:Int)=(y:Int):=by unfold wrap64;omega
 have h2:BitVec.ofInt 64 (y:Int)=BitVec.ofNat 64 y:=BitVec.ofInt_natCast _ _;rw [h1];show IntKind.i64.wrap ((BitVec.ofInt 64 (y:Int) &&& BitVec.ofInt 64 127).toNat:Int)=_;have h3:(BitVec.ofInt 64 127).toNat=127:=by decide
 have h4:y < 2 ^ 64:=by omega
 rw [BitVec.toNat_and,h2,h3,BitVec.toNat_ofNat,Nat.mod_eq_of_lt h4,Nat.and_two_pow_sub_one_eq_mod y 7,show (2:Nat) ^ 7=128 from rfl,hm];rw [IntKind.wrap_i64];clear h1 h2 h3 h4 hm h;omega
theorem A7w (a:Nat) (ha:a < P64):∃ y1 y2 y3 y4 y5 y6:Nat,
  IntKind.u64.wrap (bits .and .u64 ((a:Int) / 2) 6148914691236517205 + bits .and .u64 (a:Int) 6148914691236517205)=(y1:Int) ∧
  IntKind.u64.wrap (bits .and .u64 ((y1:Int) / 4) 3689348814741910323 + bits .and .u64 (y1:Int) 3689348814741910323)=(y2:Int) ∧
  bits .and .u64 (IntKind.u64.wrap ((y2:Int) / 16 + (y2:Int))) 1085102592571150095=(y3:Int) ∧
  IntKind.u64.wrap ((y3:Int) + (y3:Int) / 256)=(y4:Int) ∧
  IntKind.u64.wrap ((y4:Int) + (y4:Int) / 65536)=(y5:Int) ∧
  IntKind.u64.wrap ((y5:Int) + (y5:Int) / 4294967296)=(y6:Int) ∧
  bits .and .i64 (wrap64 (y6:Int)) 127=(pop a:Int):=by
 obtain ⟨y1,y2,y3,y4,y5,y6,l1,l2,s1,s2,l3,s3,s4,s5,s6,b3,b4,b5,b6,hm⟩:=A3m a ha;have half (x k:Nat):x / k<=x:=Nat.div_le_self _ _;have k1 (x:Nat) (hx:x < P64):bits .and .u64 (x:Int) 6148914691236517205=((x &&& 6148914691236517205:Nat):Int):=Xz x 6148914691236517205 hx (by decide);have k2 (x:Nat) (hx:x < P64):bits .and .u64 (x:Int) 3689348814741910323=((x &&& 3689348814741910323:Nat):Int):=Xz x 3689348814741910323 hx (by decide);have k3 (x:Nat) (hx:x < P64):bits .and .u64 (x:Int) 1085102592571150095=((x &&& 1085102592571150095:Nat):Int):=Xz x 1085102592571150095 hx (by decide);refine ⟨y1,y2,y3,y4,y5,y6,?_,?_,?_,?_,?_,?_,C1g _ _ b6 hm (JZ a)⟩
 · rw [c2,k1 _ (Nat.lt_of_le_of_lt (half _ _) ha),k1 _ ha,<- Int.natCast_add,s1];exact wrap_small l1
 · rw [c4,k2 _ (Nat.lt_of_le_of_lt (half _ _) l1),k2 _ l1,<- Int.natCast_add,s2];exact wrap_small l2
 · rw [c16,wrap_small l3,k3 _ l3,s3]
 · rw [C1I,<- s4];exact wrap_small (B8C (Nat.lt_trans b4 (by decide)))
 · rw [B7h,<- s5];exact wrap_small (B8C (Nat.lt_trans b5 (by decide)))
 · rw [c32,<- s6];exact wrap_small (B8C b6)
theorem Gw (a b c d x:Nat) (hx:x < 256) (ha:a < P64) (hb:b < P64) (hc:c < P64) (hd:d < P64) (w:World) :
  Calls Tryz.prog 103 #[.agg #[.int .u64 (a:Int),.int .u64 (b:Int),.int .u64 (c:Int),.int .u64 (d:Int)],.int .u8 (x:Int)] w
   fun e w'=>e=.returned (.bool (dH a b c d x))/\Below w.heap.size w w':=by
 have hw:=A2i a b c d x hx;have H:=aH (A5Y a b c d x ha hb hc hd);clear ha hb hc hd;go_enter Tryz.func103,Tryz.ntmps103;go_wp2;go_ret;exact ⟨aJ H.o,bA _⟩
theorem Cq (a b c d x:Nat) (hx:x < 256) (ha:a < P64) (hb:b < P64) (hc:c < P64) (hd:d < P64) (w:World) :
  Calls Tryz.prog 178 #[.agg #[.int .u64 (a:Int),.int .u64 (b:Int),.int .u64 (c:Int),.int .u64 (d:Int)],.int .u8 (x:Int)] w
   fun e w'=>e=.returned (.agg #[.int .u64 (dK a x 0:Int),.int .u64 (dK b x 1:Int),.int .u64 (dK c x 2:Int),.int .u64 (dK d x 3:Int)])/\Below w.heap.size w w':=by
 have:x / 64=0\/x / 64=1\/x / 64=2\/x / 64=3:=by omega
 have Ha:=aH (or_bit a x ha);have Hb:=aH (or_bit b x hb);have Hc:=aH (or_bit c x hc);have Hd:=aH (or_bit d x hd);clear ha hb hc hd;rcases this with h | h | h | h
 ·
  have h':(x:Int) / 64=0:=by omega
  go_enter Tryz.func178,Tryz.ntmps178;go_wp2
  go_returns
  exact ⟨pY (by simp [dK,h,Ha.o]) (by simp [dK,h]) (by simp [dK,h]) (by simp [dK,h]),by go_grown⟩
 ·
  have h':(x:Int) / 64=1:=by omega
  go_enter Tryz.func178,Tryz.ntmps178;go_wp2
  go_returns
  exact ⟨pY (by simp [dK,h]) (by simp [dK,h,Hb.o]) (by simp [dK,h]) (by simp [dK,h]),by go_grown⟩
 ·
  have h':(x:Int) / 64=2:=by omega
  go_enter Tryz.func178,Tryz.ntmps178;go_wp2
  go_returns
  exact ⟨pY (by simp [dK,h]) (by simp [dK,h]) (by simp [dK,h,Hc.o]) (by simp [dK,h]),by go_grown⟩
 ·
  have h':(x:Int) / 64=3:=by omega
  go_enter Tryz.func178,Tryz.ntmps178;go_wp2
  go_returns
  exact ⟨pY (by simp [dK,h]) (by simp [dK,h]) (by simp [dK,h]) (by simp [dK,h,Hd.o]),by go_grown⟩
theorem Uq (a b c d:Nat) (ha:a < P64) (hb:b < P64) (hc:c < P64) (hd:d < P64) (w:World) :
  Calls Tryz.prog 142 #[.agg #[.int .u64 (a:Int),.int .u64 (b:Int),.int .u64 (c:Int),.int .u64 (d:Int)]] w
   fun e w'=>e=.returned (.agg #[.int .u64 (dU a:Int),.int .u64 (dU b:Int),.int .u64 (dU c:Int),.int .u64 (dU d:Int)])/\Below w.heap.size w w':=by
 have Ha:=aH (yF a ha);have Hb:=aH (yF b hb);have Hc:=aH (yF c hc);have Hd:=aH (yF d hd);clear ha hb hc hd;go_enter Tryz.func142,Tryz.ntmps142;go_wp2
 go_rounds 5
 go_returns
 exact ⟨pY Ha.o Hb.o Hc.o Hd.o,by go_grown⟩
theorem Yg (a b c d a' b' c' d':Nat) (ha:a < P64) (hb:b < P64) (hc:c < P64) (hd:d < P64) (ha':a' < P64) (hb':b' < P64) (hc':c' < P64) (hd':d' < P64) (w:World) :
  Calls Tryz.prog 141 #[.agg #[.int .u64 (a:Int),.int .u64 (b:Int),.int .u64 (c:Int),.int .u64 (d:Int)],.agg #[.int .u64 (a':Int),.int .u64 (b':Int),.int .u64 (c':Int),.int .u64 (d':Int)]] w
   fun e w'=>e=.returned (.agg #[.int .u64 ((a ||| a':Nat):Int),.int .u64 ((b ||| b':Nat):Int),.int .u64 ((c ||| c':Nat):Int),.int .u64 ((d ||| d':Nat):Int)])/\Below w.heap.size w w':=by
 have Ha:=aH (u64_or_nat a a' ha ha');have Hb:=aH (u64_or_nat b b' hb hb');have Hc:=aH (u64_or_nat c c' hc hc');have Hd:=aH (u64_or_nat d d' hd hd');clear ha hb hc hd ha' hb' hc' hd';go_enter Tryz.func141,Tryz.ntmps141;go_wp2;refine wp_loop_rounds 5 ?_;repeat any_goals (rw [rounds_succ];go_wp2;try (go_region;go_wp2))
 go_returns
 exact ⟨pY Ha.o Hb.o Hc.o Hd.o,by go_grown⟩
theorem Uw (a:Nat) (ha:a < P64) (w:World) :
  Calls Tryz.prog 162 #[.int .u64 (a:Int)] w
   fun e w'=>e=.returned (.int .i64 (pop a:Int))/\w=w':=by
 obtain ⟨y1,y2,y3,y4,y5,y6,e1,e2,e3,e4,e5,e6,e7⟩:=A7w a ha;clear ha;go_enter Tryz.func162,Tryz.ntmps162;go_wp2;go_ret;exact ⟨rfl,rfl⟩
theorem Lt (a b c d:Nat) (ha:a < P64) (hb:b < P64) (hc:c < P64) (hd:d < P64) (w:World) :
  Calls Tryz.prog 143 #[.agg #[.int .u64 (a:Int),.int .u64 (b:Int),.int .u64 (c:Int),.int .u64 (d:Int)]] w
   fun e w'=>e=.returned (.int .i64 (card a b c d:Int))/\Below w.heap.size w w':=by
 have h1:=JZ a;have h2:=JZ b;have h3:=JZ c;have h4:=JZ d;have Ha:=aH ha;have Hb:=aH hb;have Hc:=aH hc;have Hd:=aH hd;clear ha hb hc hd;have i0:∀ w,(Instr.index 29 (.agg #[.int .u64 (a:Int),.int .u64 (b:Int),.int .u64 (c:Int),.int .u64 (d:Int)]) (.int .i64 0)).run Tryz.prog w=.ok (.int .u64 (a:Int)) w:=fun _=>by kernel_rfl
 have i1:∀ w,(Instr.index 29 (.agg #[.int .u64 (a:Int),.int .u64 (b:Int),.int .u64 (c:Int),.int .u64 (d:Int)]) (.int .i64 1)).run Tryz.prog w=.ok (.int .u64 (b:Int)) w:=fun _=>by kernel_rfl
 have i2:∀ w,(Instr.index 29 (.agg #[.int .u64 (a:Int),.int .u64 (b:Int),.int .u64 (c:Int),.int .u64 (d:Int)]) (.int .i64 2)).run Tryz.prog w=.ok (.int .u64 (c:Int)) w:=fun _=>by kernel_rfl
 have i3:∀ w,(Instr.index 29 (.agg #[.int .u64 (a:Int),.int .u64 (b:Int),.int .u64 (c:Int),.int .u64 (d:Int)]) (.int .i64 3)).run Tryz.prog w=.ok (.int .u64 (d:Int)) w:=fun _=>by kernel_rfl
 go_enter Tryz.func143,Tryz.ntmps143;go_wp2;refine wp_loop_rounds 5 ?_;rw [rounds_succ];go_wp2_with fail;refine (Uw a Ha.o _).mono ?_;rintro e w' ⟨rfl,rfl⟩;go_wp2_with fail;rw [rounds_succ];go_wp2_with fail;refine (Uw b Hb.o _).mono ?_;rintro e w' ⟨rfl,rfl⟩;go_wp2_with fail;rw [rounds_succ];go_wp2_with fail;refine (Uw c Hc.o _).mono ?_;rintro e w' ⟨rfl,rfl⟩;go_wp2_with fail;rw [rounds_succ];go_wp2_with fail;refine (Uw d Hd.o _).mono ?_;rintro e w' ⟨rfl,rfl⟩;go_wp2_with fail;rw [rounds_succ];go_wp2_with fail;go_ret;exact ⟨by simp [card],by go_grown⟩
end Go.Proofs.YthkdnehgamefiaaGreat
