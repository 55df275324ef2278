import Derived.Test.YthkdnehgamefiaaGreatShelf
import Derived.Test.YthkdnehgamefiaaGreatChecked
import Derived.Test.YthkdnehgamefiaaGreatHa
import Derived.WalkLawsBesides
import Derived.Handy
import Derived.BigQuiet
import Derived.PlainAid
import Derived.Laws.BytesArg
import Derived.Laws.BitsAllLaws
import Derived.StillTailTactics
namespace Go.Proofs.YthkdnehgamefiaaGreat
set_option linter.unusedVariables false
set_option maxHeartbeats 1600000
open Go.RowKit
def spT:ByteArray:=⟨#[34]⟩
def spC:ByteArray:=⟨#[91,93,94,45]⟩
def isSp (sp:ByteArray) (c:Int):Bool:=decide (0<=Lib.indexByte sp.data.toList c.toNat.toUInt8)
def jF (sp:ByteArray) (c:Int):Bool:=decide (32<=c) && decide (c<=126) && (c != 92) && !(isSp sp c)
theorem Gm {P:Int->Prop} (h:∀ x:Fin 256,P (x.val:Int)) {c:Int} (h0:0<=c) (h1:c<=255):P c:=by have:=h ⟨c.toNat,by omega⟩;simpa [Int.toNat_of_nonneg h0] using this
theorem B0a {c:Int} (h0:0<=c) (h1:c<=255):isSp spT c=(c == 34) :=
 Gm (P:=fun c=>isSp spT c=(c == 34)) (by decide +kernel) h0 h1
theorem B8A {c:Int} (h0:0<=c) (h1:c<=255):isSp spC c=(c == 91 || c == 93 || c == 94 || c == 45) :=
 Gm (P:=fun c=>isSp spC c=(c == 91 || c == 93 || c == 94 || c == 45)) (by decide +kernel) h0 h1
def bG (s:ByteArray) (i c:Int):Bool:=decide (0<=i) && decide (i < (s.size:Int)) && byt s i.toNat == c
theorem B7R {c:Int} (h0:0<=c) (h1:c<=255):(c.toNat.toUInt8.toNat:Int)=c:=by
 have:c.toNat.toUInt8.toNat=c.toNat:=by show (UInt8.ofNat c.toNat).toNat=_;rw [UInt8.toNat_ofNat'];omega
 rw [this];omega
theorem B0b {sp:ByteArray} {c:Int} (h0:0<=c) (h1:c<=255):isSp sp c=true ↔ ∃ k,k < sp.size/\byt sp k=c:=by
 unfold isSp;rw [decide_eq_true_iff];constructor
 · intro h;obtain ⟨o,ho⟩:∃ o:Nat,Lib.indexByte sp.data.toList c.toNat.toUInt8=(o:Int):=⟨(Lib.indexByte sp.data.toList c.toNat.toUInt8).toNat,by omega⟩;have hs:=(Lib.indexByte_some ho).1;have hlt:=(aS.1 hs).1;refine ⟨o,by simpa using hlt,?_⟩;unfold byt;rw [List.getD_eq_getElem?_getD,hs];exact B7R h0 h1
 ·
  rintro ⟨k,hk,hb⟩;have hge:=Lib.indexByte_ge sp.data.toList c.toNat.toUInt8;by_cases e:Lib.indexByte sp.data.toList c.toNat.toUInt8=-1
  ·
   exfalso;have hk':k < sp.data.toList.length:=(by simpa using hk);refine Lib.indexByte_none e k ?_;rw [aG hk']
   congr 1
   apply UInt8.toNat.inj;have h2:(sp.data.toList[k].toNat:Int)=c:=(by rw [<- hb];unfold byt;rw [List.getD_eq_getElem?_getD,aG hk'];rfl);have h3:=B7R h0 h1;omega
  · omega
theorem Ra (sp:ByteArray) (hs:sp.size<=1000000) (c:Int) (hc0:0<=c) (hc1:c<=255) (w:World):Calls Tryz.prog 151 #[.int .u8 c,.string sp] w fun e w'=>e=.returned (.bool (jF sp c))/\w'=w:=by
 have HS:=aH (show jF sp c=(decide (32<=c) && decide (c<=126) && (c != 92) && !(isSp sp c)) from rfl);have HI:=aH (B0b (sp:=sp) hc0 hc1);go_enter Tryz.func151,Tryz.ntmps151;go_wp2
 go_loop [5] (fun i=>∃ k:Nat,k<=sp.size/\i=.int .i64 k/\aQ (∀ j,j < k->byt sp j ≠ c)) (fun i=>sp.size - (intOf i).toNat)
 case atStart=>exact ⟨0,Nat.zero_le _,rfl,aH (fun j h=>by omega)⟩
 case round =>
  obtain ⟨k,hk,rfl,HA⟩:=hrel;by_cases hlt:k < sp.size
  ·
   obtain ⟨x,hx⟩:∃ x:Int,(sp[k].toNat:Int)=x:=⟨_,rfl⟩;have HX:=aH (show byt sp k=x by rw [dI hlt,hx]);obtain ⟨b,hb⟩:∃ b,(x == c)=b:=⟨_,rfl⟩
   cases b
   ·
    have HA1:aQ (∀ j,j < k + 1->byt sp j ≠ c):=aH (fun j hj=>by
     by_cases e:j=k
     · subst e;rw [HX.o];exact aN.1 hb
     · exact HA.o j (by omega))
    go_wp2
    go_round
    case rel=>exact ⟨k + 1,by omega,by go_num,HA1⟩
    case measure=>simp [intOf];omega
   · have HE:=aH (show isSp sp c=true from HI.o.2 ⟨k,hlt,by rw [HX.o];exact beq_iff_eq.1 hb⟩);go_wp2;go_ret;exact ⟨aJ (by rw [HS.o,HE.o];simp),rfl⟩
  ·
   have HE:=aH (show isSp sp c=false by
    rw [Bool.eq_false_iff];intro h;obtain ⟨j,hj,hb⟩:=HI.o.1 h
    exact HA.o j (by omega) hb)
   obtain ⟨b,hb⟩:∃ b,(c != 92)=b:=⟨_,rfl⟩;have HB:=aH hb;by_cases g0:32<=c <;> by_cases g1:c<=126 <;> cases b;all_goals try (exfalso;omega)
   all_goals
    go_wp2;go_ret;exact ⟨aJ (by rw [HS.o,HE.o,HB.o];simp <;> omega),rfl⟩
def iX (c:Int):Int:=if 48<=c/\c<=57 then c - 48 else if 97<=c/\c<=102 then c - 87 else -1
theorem Ty (c:Int):-1<=iX c/\iX c<=15:=by
 unfold iX;by_cases h1:48<=c/\c<=57
 · rw [if_pos h1];omega
 ·
  rw [if_neg h1];by_cases h2:97<=c/\c<=102
  · rw [if_pos h2];omega
  · rw [if_neg h2];omega
theorem VG (c:Int) (hc0:0<=c) (hc1:c<=255) (w:World):Calls Tryz.prog 169 #[.int .u8 c] w fun e w'=>e=.returned (.int .i64 (iX c))/\w'=w:=by
 have HS:=aH (show iX c=if 48<=c/\c<=57 then c - 48 else if 97<=c/\c<=102 then c - 87 else -1 from rfl);by_cases g0:48<=c <;> by_cases g1:c<=57 <;> by_cases g2:97<=c <;> by_cases g3:c<=102
 all_goals first
  | (exfalso;omega)
  | (go_enter Tryz.func169,Tryz.ntmps169
     go_wp2;go_ret
     exact ⟨eF (by rw [HS.o];first | (rw [if_pos (by omega)];done) | (rw [if_neg (by omega),if_pos (by omega)];omega) | (rw [if_neg (by omega),if_neg (by omega)])),rfl⟩)
def hexN (s:ByteArray) (a:Nat):Nat->Nat
 | 0=>0
 | m + 1=>if hexN s a m=m/\a + m < s.size/\0<=iX (byt s (a + m)) then m + 1 else hexN s a m
def valN (s:ByteArray) (a:Nat):Nat->Int
 | 0=>0
 | k + 1=>valN s a k * 16 + iX (byt s (a + k))
theorem Gx (s:ByteArray) (a:Nat):∀ m,hexN s a m<=m
 | 0=>Nat.le_refl _
 | m + 1=>by unfold hexN;split;exact Nat.le_refl _;have:=Gx s a m;omega
theorem zZ {s:ByteArray} {a k:Nat} (hk:hexN s a k=k) (h:¬ (a + k < s.size/\0<=iX (byt s (a + k)))):∀ d,hexN s a (k + d)=k
 | 0=>hk
 | d + 1=>by
  show (if hexN s a (k + d)=k + d/\a + (k + d) < s.size/\0<=iX (byt s (a + (k + d))) then k + d + 1 else hexN s a (k + d))=k;rw [if_neg]
  · exact zZ hk h d
  · rintro ⟨h1,h2,h3⟩;rw [zZ hk h d] at h1;obtain rfl:d=0:=(by omega);exact h ⟨h2,h3⟩
theorem CE {s:ByteArray} {a k:Nat} (hk:hexN s a k=k) (h1:a + k < s.size) (h2:0<=iX (byt s (a + k))):hexN s a (k + 1)=k + 1:=by show (if hexN s a k=k/\a + k < s.size/\0<=iX (byt s (a + k)) then k + 1 else hexN s a k)=k + 1;rw [if_pos ⟨hk,h1,h2⟩]
theorem Tx {s:ByteArray} {a k:Nat} (h:hexN s a (k + 1)=k + 1):hexN s a k=k/\a + k < s.size/\0<=iX (byt s (a + k)):=by
 by_cases e:hexN s a k=k/\a + k < s.size/\0<=iX (byt s (a + k))
 · exact e
 ·
  have:hexN s a (k + 1)=hexN s a k:=by show (if hexN s a k=k/\a + k < s.size/\0<=iX (byt s (a + k)) then k + 1 else hexN s a k)=_;rw [if_neg e]
  have h2:=Gx s a k;omega
theorem Wv {s:ByteArray} {a:Nat}:∀ {k:Nat},hexN s a k=k->k<=6->0<=valN s a k/\valN s a k < 16777216/\(k<=5->valN s a k < 1048576)/\(k<=4->valN s a k < 65536)/\(k<=3->valN s a k < 4096)/\(k<=2->valN s a k < 256)/\(k<=1->valN s a k < 16)/\(k=0->valN s a k=0)
 | 0,_,_=>by unfold valN;omega
 | k + 1,h,hk=>by
  have h1:=Wv (Tx h).1 (by omega);have h2:=(Tx h).2.2;have h3:=Ty (byt s (a + k));show 0<=valN s a k * 16 + iX (byt s (a + k))/\_;have e:valN s a (k + 1)=valN s a k * 16 + iX (byt s (a + k)):=rfl;rw [e];refine ⟨by omega,?_,?_,?_,?_,?_,?_,?_⟩
  · have:=h1.2.2.1 (by omega);omega
  · intro h5;have:=h1.2.2.2.1 (by omega);omega
  · intro h5;have:=h1.2.2.2.2.1 (by omega);omega
  · intro h5;have:=h1.2.2.2.2.2.1 (by omega);omega
  · intro h5;have:=h1.2.2.2.2.2.2.1 (by omega);omega
  · intro h5;have:=h1.2.2.2.2.2.2.2 (by omega);omega
  · omega
open Go.PlainAid
def fG (n:Int):Bool:=decide (0<=n) && decide (n<=1114111) && (decide (n < 55296) || decide (57343 < n))
theorem xI (n:Int):fG n=true ↔ 0<=n/\n<=1114111/\(n < 55296\/57343 < n):=by unfold fG;simp [and_assoc]
def oW (n:Int):List Int :=
 if n < 128 then [n] else if n < 2048 then [192 + n / 64,128 + n % 64]
 else if n < 65536 then [224 + n / 4096,128 + n / 64 % 64,128 + n % 64] else [240 + n / 262144,128 + n / 4096 % 64,128 + n / 64 % 64,128 + n % 64]
def encS (n:Int):ByteArray:=if fG n=true then strOfNums (oW n) else ⟨#[]⟩
theorem B1r (a i:Nat) (x:Int) (h0:0<=x) (hx:x < 2 ^ i) (hl:2 ^ i * a + 2 ^ i<=1000000000000):bits .or .i64 ((2 ^ i * a:Nat):Int) x=((2 ^ i * a:Nat):Int) + x:=by
 obtain ⟨n,rfl⟩:=Int.eq_ofNat_of_zero_le h0;have hn:n < 2 ^ i:=by exact_mod_cast hx
 show IntKind.i64.wrap ((BitVec.ofInt 64 ((2 ^ i * a:Nat):Int) ||| BitVec.ofInt 64 (n:Int)).toNat:Int)=_;generalize hp:2 ^ i=p at *;rw [BitVec.toNat_or,ofInt_u64 _ (by omega),ofInt_u64 _ (by omega),<- hp,<- Nat.two_pow_add_eq_or_of_lt (by omega) a,hp,IntKind.wrap_i64];omega
theorem B1s (x:Int) (h0:0<=x) (hx:x < 64):bits .or .i64 192 x=192 + x:=B1r 3 6 x h0 hx (by decide)
theorem B1t (x:Int) (h0:0<=x) (hx:x < 32):bits .or .i64 224 x=224 + x:=B1r 7 5 x h0 hx (by decide)
theorem B1u (x:Int) (h0:0<=x) (hx:x < 16):bits .or .i64 240 x=240 + x:=B1r 15 4 x h0 hx (by decide)
theorem Ff (x:Int) (h0:0<=x) (hx:x < 64):bits .or .i64 128 x=128 + x:=B1r 2 6 x h0 hx (by decide)
theorem BN (k n:Nat) (hk:k<=30) (hn:n < 9223372036854775808):bits .and .i64 (n:Int) ((2 ^ k - 1:Nat):Int)=((n % 2 ^ k:Nat):Int):=by have h2:2 ^ k<=2 ^ 30:=Nat.pow_le_pow_right (by decide) hk;have h3:n % 2 ^ k<=n:=Nat.mod_le _ _;show IntKind.i64.wrap ((BitVec.ofInt 64 (n:Int) &&& BitVec.ofInt 64 ((2 ^ k - 1:Nat):Int)).toNat:Int)=_;rw [BitVec.toNat_and,ofInt_u64 n (by omega),ofInt_u64 _ (by omega),Nat.and_two_pow_sub_one_eq_mod,IntKind.wrap_i64];omega
theorem EI (n:Int) (h0:0<=n) (h1:n<=9223372036854775807):bits .and .i64 n 63=n % 64:=by obtain ⟨x,rfl⟩:=Int.eq_ofNat_of_zero_le h0;exact BN 6 x (by decide) (by omega)
theorem Jf (n:Int):(oW n).length=if n < 128 then 1 else if n < 2048 then 2 else if n < 65536 then 3 else 4:=by
 unfold oW;split
 · rfl
 ·
  split
  · rfl
  · split <;> rfl
open Go.Sort
theorem jY (xs:List Int) (w:World):(convert 36 9 (.slice (some ⟨w.heap.size,0,none⟩) xs.length xs.length)).run Tryz.prog (w.alloc (.cells (xs.map (Value.int .u8)).toArray 5))=.ok (.string (strOfNums xs)) (w.alloc (.cells (xs.map (Value.int .u8)).toArray 5)):=by refine run_convert_bytes_arg _ 36 5 Tryz.underlying36 Tryz.underlying5 w.heap.size 0 xs.length xs.length xs rfl (fun i hi=>?_) 9 Tryz.underlying9;rw [Nat.zero_add,(Own.fresh w 5 (xs.map (Value.int .u8))).cell i];simp [aG hi]
theorem xV {a b:ByteArray} {x:Bool} (h:a=b):Ending.returned (.tuple #[.string a,.bool x])=.returned (.tuple #[.string b,.bool x]):=by rw [h]
theorem bL {a b:ByteArray} (h:a=b):Ending.returned (.string a)=.returned (.string b):=by rw [h]
theorem kT {s t:ByteArray} (h:s.data.toList=t.data.toList):s=t:=by apply ByteArray.ext;apply Array.ext';exact h
end Go.Proofs.YthkdnehgamefiaaGreat
