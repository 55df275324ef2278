import Derived.Laws.BitsAllLaws
import Derived.Test.YthkdnehgamefiaaGreatChecked
import Derived.Test.YthkdnehgamefiaaGreatHa
import Derived.WalkLawsBesides
import Derived.BigQuiet
import Derived.Deep.RegionHeld3
import Derived.Deep.DeepCutAuto
import Derived.RegionTactic
import Derived.Handy
namespace Go.Proofs.YthkdnehgamefiaaGreat
set_option linter.unusedVariables false
set_option maxHeartbeats 1000000
open Go.RowKit
def P64:Nat:=18446744073709551616
def word (a b c d x:Nat):Nat:=match x / 64 with | 0=>a | 1=>b | 2=>c | _=>d
def dH (a b c d x:Nat):Bool:=(word a b c d x).testBit (x % 64)
def dK (a x i:Nat):Nat:=if x / 64=i then a ||| 2 ^ (x % 64) else a
def dU (a:Nat):Nat:=P64 - 1 - a
theorem A2i (a b c d x:Nat) (hx:x < 256) :
  [Value.int .u64 (a:Int),.int .u64 (b:Int),.int .u64 (c:Int),.int .u64 (d:Int)][x / 64]?=some (.int .u64 (word a b c d x:Int)):=by
 unfold word;have:x / 64=0\/x / 64=1\/x / 64=2\/x / 64=3:=by omega
 rcases this with h | h | h | h <;> rw [h] <;> rfl
theorem word_lt (a b c d x:Nat) (ha:a < P64) (hb:b < P64) (hc:c < P64) (hd:d < P64):word a b c d x < P64:=by unfold word;split <;> assumption
theorem B7Z (y r:Nat) (hy:y < P64):(bits .and .u64 ((y:Int) / 2 ^ r) 1 == 1)=y.testBit r:=by
 have h1:((y:Int) / 2 ^ r)=((y / 2 ^ r:Nat):Int):=by rw [Int.natCast_ediv,Int.natCast_pow];rfl
 have h2:y / 2 ^ r < 18446744073709551616:=Nat.lt_of_le_of_lt (Nat.div_le_self _ _) hy;rw [h1,show (1:Int)=((1:Nat):Int) from rfl,u64_and_nat _ _ h2 (by decide),Nat.testBit_eq_decide_div_mod_eq,Nat.and_one_is_mod];have:=Nat.mod_two_eq_zero_or_one (y / 2 ^ r);rcases this with h | h <;> rw [h] <;> rfl
theorem A5Y (a b c d x:Nat) (ha:a < P64) (hb:b < P64) (hc:c < P64) (hd:d < P64) :
  (bits .and .u64 ((word a b c d x:Int) / 2 ^ (x % 64)) 1 == 1)=dH a b c d x :=
 B7Z _ _ (word_lt a b c d x ha hb hc hd)
theorem B2P (x:Nat):2 ^ (x % 64) < 18446744073709551616:=by have:x % 64 < 64:=Nat.mod_lt _ (by decide);have h2:2 ^ (x % 64)<=2 ^ 63:=Nat.pow_le_pow_right (by decide) (by omega);exact Nat.lt_of_le_of_lt h2 (by decide)
theorem or_bit (a x:Nat) (ha:a < P64):bits .or .u64 (a:Int) (IntKind.u64.wrap (2 ^ (x % 64)))=((a ||| 2 ^ (x % 64):Nat):Int):=by
 have h1:((2:Int) ^ (x % 64))=((2 ^ (x % 64):Nat):Int):=by rw [Int.natCast_pow];rfl
 have h2:=B2P x;rw [h1];generalize 2 ^ (x % 64)=p at h2;have h3:IntKind.u64.wrap (p:Int)=(p:Int):=by rw [IntKind.wrap_u64];omega
 rw [h3,u64_or_nat _ _ ha h2]
theorem nY {a x i:Nat} (ha:a < P64):dK a x i < P64:=by
 unfold dK;split
 · exact Nat.or_lt_two_pow (n:=64) ha (B2P x)
 · exact ha
theorem yF (a:Nat) (ha:a < P64):bits .xor .u64 IntKind.u64.max (a:Int)=(dU a:Int):=by
 have hm:IntKind.u64.max=((18446744073709551615:Nat):Int):=by decide
 rw [hm,u64_xor_nat _ _ (by decide) ha];have h:=congrArg BitVec.toNat (BitVec.allOnes_xor (x:=BitVec.ofNat 64 a));rw [BitVec.toNat_xor,BitVec.toNat_not,BitVec.toNat_allOnes,BitVec.toNat_ofNat,show a % 2 ^ 64=a from Nat.mod_eq_of_lt ha] at h;exact congrArg Int.ofNat h
theorem iV (a:Nat):dU a < P64:=by unfold dU P64;omega
def bQ (i lo:Nat):Nat->Nat
 | 0=>0
 | m + 1=>if lo<=m then dK (bQ i lo m) m i else 0
theorem LF (i lo:Nat):∀ m,m<=lo->bQ i lo m=0:=by
 intro m h
 cases m with
 | zero=>rfl
 | succ m=>unfold bQ;rw [if_neg (by omega)]
theorem Qz (i lo:Nat):bQ i lo lo=0:=LF i lo lo (Nat.le_refl _)
theorem Yr {i lo m:Nat} (h:lo<=m):bQ i lo (m + 1)=dK (bQ i lo m) m i:=by rw [bQ,if_pos h]
theorem A1s {i lo m hi:Nat} (h:¬ m<=hi) (h2:m<=hi + 1\/m=lo):bQ i lo m=bQ i lo (hi + 1):=by
 by_cases e:m=hi + 1
 · rw [e]
 ·
  obtain rfl:m=lo:=by omega
  rw [Qz,LF i m (hi + 1) (by omega)]
theorem eZ (i lo m:Nat):bQ i lo m < P64:=by
 induction m with
 | zero=>unfold bQ P64;omega
 | succ m ih =>
  unfold bQ;split
  · exact nY ih
  · unfold P64;omega
theorem last (b0 b1 b2 b3 b4 b5 b6 b7 X1 X2 X3 X4 X5 X6 y:Nat) (h0:b0<=8) (h1:b1<=8) (h2:b2<=8) (h3:b3<=8) (h4:b4<=8) (h5:b5<=8) (h6:b6<=8) (h7:b7<=8)
  (x6:X6=256 * b7 + b6) (x5:X5=256 * X6 + b5) (x4:X4=256 * X5 + b4) (x3:X3=256 * X4 + b3) (x2:X2=256 * X3 + b2) (x1:X1=256 * X2 + b1) (hy:y=256 * X1 + b0) :
  ∃ y4 y5 y6,y4=y + y / 256/\y5=y4 + y4 / 65536/\y6=y5 + y5 / 4294967296/\y<=600000000000000000/\y4 < 2000000000000000000/\y5 < 3000000000000000000/\y6 < 4000000000000000000/\y6 % 128=b0 + b1 + b2 + b3 + b4 + b5 + b6 + b7:=by
 have g6:X6<=2056:=by omega
 have g5:X5<=526344:=by omega
 have g4:X4<=134744072:=by omega
 have g3:X3<=34494482440:=by omega
 have g2:X2<=8830587504648:=by omega
 have g1:X1<=2260630401189896:=by omega
 have g0:y<=578721382704613384:=by omega
 have d0:y / 256=X1:=by omega
 refine ⟨_,_,_,rfl,rfl,rfl,by omega,?_⟩;rw [d0];obtain ⟨U1,u1⟩:∃ U,U=X1 + X2:=⟨_,rfl⟩;obtain ⟨U2,u2⟩:∃ U,U=X2 + X3:=⟨_,rfl⟩;obtain ⟨U3,u3⟩:∃ U,U=X3 + X4:=⟨_,rfl⟩;obtain ⟨U4,u4⟩:∃ U,U=X4 + X5:=⟨_,rfl⟩;obtain ⟨U5,u5⟩:∃ U,U=X5 + X6:=⟨_,rfl⟩;obtain ⟨U6,u6⟩:∃ U,U=X6 + b7:=⟨_,rfl⟩;have e0:y + X1=256 * U1 + (b0 + b1):=by omega
 have e1:U1=256 * U2 + (b1 + b2):=by omega
 have e2:U2=256 * U3 + (b2 + b3):=by omega
 have e3:U3=256 * U4 + (b3 + b4):=by omega
 have e4:U4=256 * U5 + (b4 + b5):=by omega
 have e5:U5=256 * U6 + (b5 + b6):=by omega
 have e6:U6=256 * b7 + (b6 + b7):=by omega
 have k0:y + X1<=600000000000000000:=by omega
 clear g6 g5 g4 g3 g2 g1 g0 d0 x6 x5 x4 x3 x2 x1 hy u1 u2 u3 u4 u5 u6;generalize y + X1=U0 at e0 k0;have d1:U0 / 65536=U2:=by omega
 rw [d1];obtain ⟨V1,v1⟩:∃ U,U=U1 + U3:=⟨_,rfl⟩;obtain ⟨V2,v2⟩:∃ U,U=U2 + U4:=⟨_,rfl⟩;obtain ⟨V3,v3⟩:∃ U,U=U3 + U5:=⟨_,rfl⟩;obtain ⟨V4,v4⟩:∃ U,U=U4 + U6:=⟨_,rfl⟩;have f0:U0 + U2=256 * V1 + (b0 + b1 + b2 + b3):=by omega
 have f1:V1=256 * V2 + (b1 + b2 + b3 + b4):=by omega
 have f2:V2=256 * V3 + (b2 + b3 + b4 + b5):=by omega
 have f3:V3=256 * V4 + (b3 + b4 + b5 + b6):=by omega
 have f4:V4 % 256=b4 + b5 + b6 + b7:=by omega
 have k1:U0 + U2<=1200000000000000000:=by omega
 clear e0 e1 e2 e3 e4 e5 e6 v1 v2 v3 v4;generalize U0 + U2=V0 at f0 k1;clear d1;have q1:V0 / 65536=V2:=by clear f2 f3 f4;omega
 have q2:V2 / 65536=V4:=by clear f0 f1 f4;omega
 have d2:V0 / 4294967296=V4:=by rw [<- q2,<- q1];clear f0 f1 f2 f3 f4;omega
 rw [d2];have q3:V4<=V0:=by omega
 have r:(V0 + V4) % 128=b0 + b1 + b2 + b3 + b4 + b5 + b6 + b7:=by clear f1 f2 f3;omega
 clear f0 f1 f2 f3 f4;exact ⟨by omega,by omega,by omega,r⟩
theorem c2 (a:Nat):((a:Int) / 2)=((a / 2:Nat):Int):=by omega
theorem c4 (a:Nat):((a:Int) / 4)=((a / 4:Nat):Int):=by omega
theorem Fx (a b c d x:Nat) (hx:x < 256) (ha:a < P64) (hb:b < P64) (hc:c < P64) (hd:d < P64) (w:World) :
  Calls Tryz.prog 171 #[.agg #[.int .u64 (a:Int),.int .u64 (b:Int),.int .u64 (c:Int),.int .u64 (d:Int)],.int .u8 (x:Int)] w
   fun e w'=>e=.returned (.agg #[.int .u64 (dK a x 0:Int),.int .u64 (dK b x 1:Int),.int .u64 (dK c x 2:Int),.int .u64 (dK d x 3:Int)])/\Below w.heap.size w w':=by
 have:x / 64=0\/x / 64=1\/x / 64=2\/x / 64=3:=by omega
 have Ha:=aH (or_bit a x ha);have Hb:=aH (or_bit b x hb);have Hc:=aH (or_bit c x hc);have Hd:=aH (or_bit d x hd);clear ha hb hc hd;rcases this with h | h | h | h
 ·
  have h':(x:Int) / 64=0:=by omega
  go_enter Tryz.func171,Tryz.ntmps171;go_wp2
  go_returns
  exact ⟨pY (by simp [dK,h,Ha.o]) (by simp [dK,h]) (by simp [dK,h]) (by simp [dK,h]),by go_grown⟩
 ·
  have h':(x:Int) / 64=1:=by omega
  go_enter Tryz.func171,Tryz.ntmps171;go_wp2
  go_returns
  exact ⟨pY (by simp [dK,h]) (by simp [dK,h,Hb.o]) (by simp [dK,h]) (by simp [dK,h]),by go_grown⟩
 ·
  have h':(x:Int) / 64=2:=by omega
  go_enter Tryz.func171,Tryz.ntmps171;go_wp2
  go_returns
  exact ⟨pY (by simp [dK,h]) (by simp [dK,h]) (by simp [dK,h,Hc.o]) (by simp [dK,h]),by go_grown⟩
 ·
  have h':(x:Int) / 64=3:=by omega
  go_enter Tryz.func171,Tryz.ntmps171;go_wp2
  go_returns
  exact ⟨pY (by simp [dK,h]) (by simp [dK,h]) (by simp [dK,h]) (by simp [dK,h,Hd.o]),by go_grown⟩
theorem Vp (a b c d:Nat) (ha:a < P64) (hb:b < P64) (hc:c < P64) (hd:d < P64) (w:World) :
  Calls Tryz.prog 132 #[.agg #[.int .u64 (a:Int),.int .u64 (b:Int),.int .u64 (c:Int),.int .u64 (d:Int)]] w
   fun e w'=>e=.returned (.agg #[.int .u64 (dU a:Int),.int .u64 (dU b:Int),.int .u64 (dU c:Int),.int .u64 (dU d:Int)])/\Below w.heap.size w w':=by
 have Ha:=aH (yF a ha);have Hb:=aH (yF b hb);have Hc:=aH (yF c hc);have Hd:=aH (yF d hd);clear ha hb hc hd;go_enter Tryz.func132,Tryz.ntmps132;go_wp2
 go_rounds 5
 go_returns
 exact ⟨pY Ha.o Hb.o Hc.o Hd.o,by go_grown⟩
theorem Ob (a b c d a' b' c' d':Nat) (ha:a < P64) (hb:b < P64) (hc:c < P64) (hd:d < P64) (ha':a' < P64) (hb':b' < P64) (hc':c' < P64) (hd':d' < P64) (w:World) :
  Calls Tryz.prog 153 #[.agg #[.int .u64 (a:Int),.int .u64 (b:Int),.int .u64 (c:Int),.int .u64 (d:Int)],.agg #[.int .u64 (a':Int),.int .u64 (b':Int),.int .u64 (c':Int),.int .u64 (d':Int)]] w
   fun e w'=>e=.returned (.agg #[.int .u64 ((a ||| a':Nat):Int),.int .u64 ((b ||| b':Nat):Int),.int .u64 ((c ||| c':Nat):Int),.int .u64 ((d ||| d':Nat):Int)])/\Below w.heap.size w w':=by
 have Ha:=aH (u64_or_nat a a' ha ha');have Hb:=aH (u64_or_nat b b' hb hb');have Hc:=aH (u64_or_nat c c' hc hc');have Hd:=aH (u64_or_nat d d' hd hd');clear ha hb hc hd ha' hb' hc' hd';go_enter Tryz.func153,Tryz.ntmps153;go_wp2;refine wp_loop_rounds 5 ?_;repeat any_goals (rw [rounds_succ];go_wp2;try (go_region;go_wp2))
 go_returns
 exact ⟨pY Ha.o Hb.o Hc.o Hd.o,by go_grown⟩
theorem Gw (a b c d x:Nat) (hx:x < 256) (ha:a < P64) (hb:b < P64) (hc:c < P64) (hd:d < P64) (w:World) :
  Calls Tryz.prog 103 #[.agg #[.int .u64 (a:Int),.int .u64 (b:Int),.int .u64 (c:Int),.int .u64 (d:Int)],.int .u8 (x:Int)] w
   fun e w'=>e=.returned (.bool (dH a b c d x))/\Below w.heap.size w w':=by
 have hw:=A2i a b c d x hx;have H:=aH (A5Y a b c d x ha hb hc hd);clear ha hb hc hd;go_enter Tryz.func103,Tryz.ntmps103;go_wp2;go_ret;exact ⟨aJ H.o,bA _⟩
end Go.Proofs.YthkdnehgamefiaaGreat
