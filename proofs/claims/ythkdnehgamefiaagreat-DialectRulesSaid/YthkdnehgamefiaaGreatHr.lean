import Derived.Test.YthkdnehgamefiaaGreatHl
namespace Go.Proofs.YthkdnehgamefiaaGreat
set_option linter.unusedVariables false
set_option maxRecDepth 1000000
open Go.RowKit Go.Sort
set_option maxHeartbeats 3200000 in
theorem nU (s:ByteArray) (hs:s.size<=maxLen) (w:World):Calls Tryz.prog 14 #[.string s] w fun e w'=>e=.returned (.bool (bN s))/\w=w':=by
 unfold maxLen at hs;have HW:=aH (show bN s=(!(WX s) && uH s s.size && decide ((s.size:Int)<=12)) from rfl);have HR:=aH (show WX s=(s.toList.isEmpty || s.toList == [109,111,100,117,108,101] || s.toList == [105,109,112,111,114,116] || s.toList == [119,97,116,101,114]) from rfl);obtain ⟨b0,h0⟩:∃ b0,s.toList.isEmpty=b0:=⟨_,rfl⟩;obtain ⟨b1,h1⟩:∃ b1,(s.toList == [109,111,100,117,108,101])=b1:=⟨_,rfl⟩;obtain ⟨b2,h2⟩:∃ b2,(s.toList == [105,109,112,111,114,116])=b2:=⟨_,rfl⟩;obtain ⟨b3,h3⟩:∃ b3,(s.toList == [119,97,116,101,114])=b3:=⟨_,rfl⟩;have HB:=aH (show WX s=(b0 || b1 || b2 || b3) by rw [HR.o,h0,h1,h2,h3]);clear HR;by_cases hz:(s.size:Int)<=12
 ·
  by_cases hb:(b0 || b1 || b2 || b3)=true
  ·
   cases b0 <;> cases b1 <;> cases b2 <;> cases b3
   all_goals first
    | (exfalso;revert hb;decide)
    | (clear hb
       go_enter Tryz.func14,Tryz.ntmps14;go_wp2;go_ret
       exact ⟨aJ (by rw [HW.o,HB.o];rfl),rfl⟩)
  ·
   obtain ⟨rfl,rfl,rfl,rfl⟩:b0=false/\b1=false/\b2=false/\b3=false:=(by revert hb;cases b0 <;> cases b1 <;> cases b2 <;> cases b3 <;> decide);clear hb;have H0:=aH (show uH s 0=true from rfl);go_enter Tryz.func14,Tryz.ntmps14;go_wp2
   go_loop [3] (fun i=>∃ k:Nat,k<=s.size/\i=.int .i64 k/\aQ (uH s k=true)) (fun i=>s.size - (intOf i).toNat)
   case atStart=>exact ⟨0,Nat.zero_le _,rfl,H0⟩
   case round =>
    obtain ⟨k,hk,rfl,HA⟩:=hrel;clear H0 h0 h1 h2 h3;by_cases hlt:k < s.size
    ·
     obtain ⟨c,hc⟩:∃ c:Int,(s[k].toNat:Int)=c:=⟨_,rfl⟩;have HC:=aH (show byt s k=c by rw [dI hlt,hc]);have hc0:0<=c/\c<=255:=(by rw [<- HC.o];exact tX s k);have HN:vZ k c=false->aQ (bN s=false):=fun h=>aH (by rw [HW.o,EE (k:=k) (by rw [HC.o];exact h) _ hlt];simp);have HY:vZ k c=true->aQ (uH s (k + 1)=true):=fun h=>aH (by unfold uH;rw [HA.o,HC.o,h];rfl);by_cases g1:97<=c <;> by_cases g2:c<=122 <;> by_cases g3:65<=c <;> by_cases g4:c<=90;all_goals try (exfalso;omega)
     all_goals
      have HL:=aH (show isLet c=(decide (97<=c) && decide (c<=122) || decide (65<=c) && decide (c<=90)) from rfl);simp only [g1,g2,g3,g4,decide_true,decide_false,Bool.and_true,Bool.and_false,Bool.or_true,Bool.or_false] at HL
     all_goals try
      ( have H1:=HY (by unfold vZ;rw [HL.o];rfl)
        clear HY HN;go_wp2
        go_round
        case rel=>exact ⟨k + 1,by omega,by go_num,H1⟩
        case measure=>simp [intOf];omega
        done)
     all_goals
      cases k with
      | zero =>
       have H1:=HN (by unfold vZ;rw [HL.o];rfl);clear HY HN;go_wp2;go_ret;exact ⟨aJ H1.o.symm,rfl⟩
      | succ k =>
       have hk0:(((k + 1:Nat):Int) == 0)=false:=(by rw [aN];omega);have hk1:((k:Int) + 1 == 0)=false:=(by rw [aN];omega);obtain ⟨bu,hu⟩:∃ bu,(c != 95)=bu:=⟨_,rfl⟩
       cases bu with
       | false =>
        have hu':(c == 95)=true:=(by rw [bne] at hu;revert hu;cases (c == 95) <;> simp);have H1:=HY (by unfold vZ;rw [HL.o,hu'];simp);clear HY HN hu';go_wp2
        go_round
        case rel=>exact ⟨k + 1 + 1,by omega,by go_num,H1⟩
        case measure=>simp [intOf];omega
       | true =>
        have hu':(c == 95)=false:=(by rw [bne] at hu;revert hu;cases (c == 95) <;> simp);by_cases g5:c < 48
        ·
         first
          | (exfalso;omega)
          | (have H1:=HN (by unfold vZ Io;rw [HL.o,hu'];simp;omega)
             clear HY HN hu';go_wp2;go_ret
             exact ⟨aJ H1.o.symm,rfl⟩)
        ·
         by_cases g6:57 < c
         ·
          first
           | (exfalso;omega)
           | (have H1:=HN (by unfold vZ Io;rw [HL.o,hu'];simp;omega)
              clear HY HN hu';go_wp2;go_ret
              exact ⟨aJ H1.o.symm,rfl⟩)
         ·
          first
           | (exfalso;omega)
           | (have H1:=HY (by unfold vZ Io;rw [HL.o,hu'];simp;omega)
              clear HY HN hu';go_wp2
              go_round
              case rel=>exact ⟨k + 1 + 1,by omega,by go_num,H1⟩
              case measure=>simp [intOf];omega)
    · obtain rfl:k=s.size:=(by omega);go_wp2;go_ret;exact ⟨aJ (by rw [HW.o,HB.o,HA.o];simp;omega),rfl⟩
 ·
  have HF:=aH (show bN s=false by rw [HW.o,aF hz];simp);clear HB
  cases b0
  all_goals
   go_enter Tryz.func14,Tryz.ntmps14;go_wp2;go_ret;exact ⟨aJ HF.o.symm,rfl⟩
theorem Rd.fin {w w3:World} {g N k0 k:Nat} {lo:Option Addr} {lc:Nat} {L:List Tok} {F0 F:Option (Int × Int)} (H0:Rd w g lo lc L k0 F0) (hN:w.heap.size<=N) (HU:But (fun j=>j=g) w w3) (H3:Rd w3 g lo lc L k F) (u0 u1 u2 u3 u4 u5 u6:Value) :
  But (fun j=>j=g) w (bI w3 N u0 u1 u2 u3 u4 u5 u6)/\Rd (bI w3 N u0 u1 u2 u3 u4 u5 u6) g lo lc L k F:=by
 have hU:But (fun j=>j=g) w (bI w3 N u0 u1 u2 u3 u4 u5 u6):=HU.trans (But.set7 w3 N u0 u1 u2 u3 u4 u5 u6) (fun j hj e=>by omega);have hg:=H0.1.lt;exact ⟨hU,H3.1.but (But.set7 w3 N u0 u1 u2 u3 u4 u5 u6) (by omega),H0.2.1.but H0.2.2 hU,H0.2.2⟩
theorem Ij {s:ByteArray} (h:bN s=true):s.size<=12:=by unfold bN at h;simp only [Bool.and_eq_true,decide_eq_true_eq] at h;omega
@[go_sem 2000] theorem C0f (k:Int) (t:ByteArray) (w:World):(Instr.build 32 #[(0,.int .i64 k),(1,.string t)]).run Tryz.prog w=.ok (.agg #[.int .i64 k,.string t,.int .u64 0,.int .u64 0,.int .u64 0,.int .u64 0,.slice none 0 0]) w:=by kernel_rfl
@[go_sem 2000] theorem C0i (k a b c d:Int) (w:World):(Instr.build 32 #[(0,.int .i64 k),(2,.agg #[.int .u64 a,.int .u64 b,.int .u64 c,.int .u64 d])]).run Tryz.prog w=.ok (.agg #[.int .i64 k,.string ⟨#[]⟩,.int .u64 a,.int .u64 b,.int .u64 c,.int .u64 d,.slice none 0 0]) w:=by kernel_rfl
@[go_sem 2000] theorem C0e (k:Int) (w:World):(Instr.build 32 #[(0,.int .i64 k)]).run Tryz.prog w=.ok (.agg #[.int .i64 k,.string ⟨#[]⟩,.int .u64 0,.int .u64 0,.int .u64 0,.int .u64 0,.slice none 0 0]) w:=by kernel_rfl
theorem MJ {L:List Tok} {k:Nat} (h:(tkA L k).kd ≠ 0):k < L.length:=by
 rcases Nat.lt_or_ge k L.length with h1 | h1
 · exact h1
 · rw [Ol h1] at h;exact absurd rfl h
theorem xB {L:List Tok} {k:Nat} {s:List UInt8} (h:isS L k s=true):k < L.length:=by unfold isS at h;rw [Bool.and_eq_true,beq_iff_eq] at h;exact MJ (by rw [h.1];decide)
theorem jU.below {w w':World} {g:Nat} {lo:Option Addr} {lc:Nat} {L:List Tok} {r:Rs} {D:Nat} {X:Ex} {ko:Option Addr} {w0:World} (h:jU w0 g lo lc L r D X ko w) (hb:Below w.heap.size w w'):jU w0 g lo lc L r D X ko w':=by
 cases r with
 | ok q =>
  obtain ⟨x,m⟩:=q;obtain ⟨h1,h2,n,h3⟩:=h;exact ⟨h1.below hb,h2,n,dD.but (But.of_below (S:=fun _=>False) hb) (fun _ h=>h.elim) h3⟩
 | error f =>
  obtain ⟨h1,k,h2⟩:=h;exact ⟨h1,k,h2.below hb⟩
theorem Rd.set7 {w w3:World} {g N k0:Nat} {lo:Option Addr} {lc:Nat} {L:List Tok} {r:Rs} {D D':Nat} {X:Ex} {ko:Option Addr} (H0:Rd w g lo lc L k0 none) (hN:w.heap.size<=N) (hD:N < D) (hD':D'<=D) (HU:But (fun j=>j=g) w w3)
  (h:jU w g lo lc L r D X ko w3) (u0 u1 u2 u3 u4 u5 u6:Value):But (fun j=>j=g) w (bI w3 N u0 u1 u2 u3 u4 u5 u6)/\jU w g lo lc L r D' X ko (bI w3 N u0 u1 u2 u3 u4 u5 u6):=by
 cases r with
 | ok q =>
  obtain ⟨x,m⟩:=q;obtain ⟨h1,rfl,n,h2⟩:=h;obtain ⟨a,b⟩:=Rd.fin (N:=N) H0 hN HU h1 u0 u1 u2 u3 u4 u5 u6;exact ⟨a,b,rfl,n,dD.low hD' (dD.but (But.set7 w3 N u0 u1 u2 u3 u4 u5 u6) (fun j hj=>by omega) h2)⟩
 | error f =>
  obtain ⟨h1,k,h2⟩:=h;obtain ⟨a,b⟩:=Rd.fin (N:=N) H0 hN HU h2 u0 u1 u2 u3 u4 u5 u6;exact ⟨a,h1,k,b⟩
end Go.Proofs.YthkdnehgamefiaaGreat
