import Derived.Test.YthkdnehgamefiaaGreatShelf
import Derived.Test.YthkdnehgamefiaaGreatChecked
import Derived.Test.YthkdnehgamefiaaGreatHa
import Derived.WalkLawsBesides
import Derived.Handy
import Derived.BigQuiet
import Derived.PlainAid
import Derived.Laws.BytesArg
import Derived.Laws.BitsAllLaws
import Derived.StillTailTactics
namespace Go.Proofs.YthkdnehgamefiaaGreat
set_option linter.unusedVariables false
set_option maxHeartbeats 1600000
set_option maxRecDepth 1000000
open Go.RowKit
def spT:ByteArray:=⟨#[34]⟩
def spC:ByteArray:=⟨#[91,93,94,45]⟩
def isSp (sp:ByteArray) (c:Int):Bool:=decide (0<=Lib.indexByte sp.data.toList c.toNat.toUInt8)
def jF (sp:ByteArray) (c:Int):Bool:=decide (32<=c) && decide (c<=126) && (c != 92) && !(isSp sp c)
theorem Gm {P:Int->Prop} (h:∀ x:Fin 256,P (x.val:Int)) {c:Int} (h0:0<=c) (h1:c<=255):P c:=by have:=h ⟨c.toNat,by omega⟩;simpa [Int.toNat_of_nonneg h0] using this
theorem B0a {c:Int} (h0:0<=c) (h1:c<=255):isSp spT c=(c == 34) :=
 Gm (P:=fun c=>isSp spT c=(c == 34)) (by decide +kernel) h0 h1
def bG (s:ByteArray) (i c:Int):Bool:=decide (0<=i) && decide (i < (s.size:Int)) && byt s i.toNat == c
theorem oQ (s:ByteArray) (i c:Int) (w:World):Calls Tryz.prog 138 #[.string s,.int .i64 i,.int .u8 c] w fun e w'=>e=.returned (.bool (bG s i c))/\w'=w:=by
 have HS:=aH (show bG s i c=(decide (0<=i) && decide (i < (s.size:Int)) && byt s i.toNat == c) from rfl);by_cases h0:0<=i
 ·
  obtain ⟨k,rfl⟩:∃ k:Nat,i=(k:Int):=⟨i.toNat,by omega⟩;by_cases h1:(k:Int) < (s.size:Int)
  · have hk:k < s.size:=(by omega);obtain ⟨x,hx⟩:∃ x:Int,(s[k].toNat:Int)=x:=⟨_,rfl⟩;have HX:=aH (show byt s ((k:Int).toNat)=x by rw [Int.toNat_natCast,dI hk,hx]);go_enter Tryz.func138,Tryz.ntmps138;go_wp2;go_ret;exact ⟨aJ (by rw [HS.o,HX.o,aT h0,aT h1];rfl),rfl⟩
  · go_enter Tryz.func138,Tryz.ntmps138;go_wp2;go_ret;exact ⟨aJ (by rw [HS.o,aF (by omega:¬ (k:Int) < (s.size:Int))];simp),rfl⟩
 · go_enter Tryz.func138,Tryz.ntmps138;go_wp2;go_ret;exact ⟨aJ (by rw [HS.o,aF (by omega:¬ 0<=i)];simp),rfl⟩
theorem RJ (sp:ByteArray) (c:Int) (w:World):Calls Tryz.prog 127 #[.int .u8 c,.string sp] w fun e w'=>e=.returned (.bool (jF sp c))/\w'=w:=by
 have HS:=aH (show jF sp c=(decide (32<=c) && decide (c<=126) && (c != 92) && !(isSp sp c)) from rfl);obtain ⟨x,hx⟩:∃ x,Lib.indexByte sp.data.toList c.toNat.toUInt8=x:=⟨_,rfl⟩;have HI:=aH (show isSp sp c=decide (0<=x) by unfold isSp;rw [hx]);have HX:=aH hx;clear hx;by_cases h0:32<=c
 ·
  by_cases h1:c<=126
  ·
   obtain ⟨b,hb⟩:∃ b,(c != 92)=b:=⟨_,rfl⟩
   cases b
   · go_enter Tryz.func127,Tryz.ntmps127;go_wp2;go_ret;exact ⟨aJ (by rw [HS.o,hb];simp),rfl⟩
   · have HB:=aH hb;go_enter Tryz.func127,Tryz.ntmps127;go_wp2_with fail;refine (Tryz.strings_IndexByte sp c _).mono ?_;rintro e w' ⟨rfl,rfl⟩;rw [HX.o];go_wp2;go_ret;exact ⟨aJ (by rw [HS.o,HI.o,HB.o,aT h0,aT h1];simp;rw [Bool.eq_iff_iff];simp),rfl⟩
  · go_enter Tryz.func127,Tryz.ntmps127;go_wp2;go_ret;exact ⟨aJ (by rw [HS.o,aF (by omega:¬ c<=126)];simp),rfl⟩
 · go_enter Tryz.func127,Tryz.ntmps127;go_wp2;go_ret;exact ⟨aJ (by rw [HS.o,aF (by omega:¬ 32<=c)];simp),rfl⟩
theorem A4O {a b a' b':Int} (h1:a=a') (h2:b=b'):Ending.returned (.tuple #[.int .i64 a,.int .i64 b])=.returned (.tuple #[.int .i64 a',.int .i64 b']):=by rw [h1,h2]
def iX (c:Int):Int:=if 48<=c/\c<=57 then c - 48 else if 97<=c/\c<=102 then c - 87 else -1
theorem Ty (c:Int):-1<=iX c/\iX c<=15:=by
 unfold iX;by_cases h1:48<=c/\c<=57
 · rw [if_pos h1];omega
 ·
  rw [if_neg h1];by_cases h2:97<=c/\c<=102
  · rw [if_pos h2];omega
  · rw [if_neg h2];omega
theorem A3J {c:Int} (h0:0<=c) (h1:c<=255):Lib.indexByte [48,49,50,51,52,53,54,55,56,57,97,98,99,100,101,102] c.toNat.toUInt8=iX c :=
 Gm (P:=fun c=>Lib.indexByte [48,49,50,51,52,53,54,55,56,57,97,98,99,100,101,102] c.toNat.toUInt8=iX c) (by decide +kernel) h0 h1
def hexN (s:ByteArray) (a:Nat):Nat->Nat
 | 0=>0
 | m + 1=>if hexN s a m=m/\a + m < s.size/\0<=iX (byt s (a + m)) then m + 1 else hexN s a m
def valN (s:ByteArray) (a:Nat):Nat->Int
 | 0=>0
 | k + 1=>valN s a k * 16 + iX (byt s (a + k))
theorem Gx (s:ByteArray) (a:Nat):∀ m,hexN s a m<=m
 | 0=>Nat.le_refl _
 | m + 1=>by unfold hexN;split;exact Nat.le_refl _;have:=Gx s a m;omega
theorem zZ {s:ByteArray} {a k:Nat} (hk:hexN s a k=k) (h:¬ (a + k < s.size/\0<=iX (byt s (a + k)))):∀ d,hexN s a (k + d)=k
 | 0=>hk
 | d + 1=>by
  show (if hexN s a (k + d)=k + d/\a + (k + d) < s.size/\0<=iX (byt s (a + (k + d))) then k + d + 1 else hexN s a (k + d))=k;rw [if_neg]
  · exact zZ hk h d
  · rintro ⟨h1,h2,h3⟩;rw [zZ hk h d] at h1;obtain rfl:d=0:=(by omega);exact h ⟨h2,h3⟩
theorem CE {s:ByteArray} {a k:Nat} (hk:hexN s a k=k) (h1:a + k < s.size) (h2:0<=iX (byt s (a + k))):hexN s a (k + 1)=k + 1:=by show (if hexN s a k=k/\a + k < s.size/\0<=iX (byt s (a + k)) then k + 1 else hexN s a k)=k + 1;rw [if_pos ⟨hk,h1,h2⟩]
theorem Tx {s:ByteArray} {a k:Nat} (h:hexN s a (k + 1)=k + 1):hexN s a k=k/\a + k < s.size/\0<=iX (byt s (a + k)):=by
 by_cases e:hexN s a k=k/\a + k < s.size/\0<=iX (byt s (a + k))
 · exact e
 ·
  have:hexN s a (k + 1)=hexN s a k:=by show (if hexN s a k=k/\a + k < s.size/\0<=iX (byt s (a + k)) then k + 1 else hexN s a k)=_;rw [if_neg e]
  have h2:=Gx s a k;omega
theorem Wv {s:ByteArray} {a:Nat}:∀ {k:Nat},hexN s a k=k->k<=6->0<=valN s a k/\valN s a k < 16777216/\(k<=5->valN s a k < 1048576)/\(k<=4->valN s a k < 65536)/\(k<=3->valN s a k < 4096)/\(k<=2->valN s a k < 256)/\(k<=1->valN s a k < 16)/\(k=0->valN s a k=0)
 | 0,_,_=>by unfold valN;omega
 | k + 1,h,hk=>by
  have h1:=Wv (Tx h).1 (by omega);have h2:=(Tx h).2.2;have h3:=Ty (byt s (a + k));show 0<=valN s a k * 16 + iX (byt s (a + k))/\_;have e:valN s a (k + 1)=valN s a k * 16 + iX (byt s (a + k)):=rfl;rw [e];refine ⟨by omega,?_,?_,?_,?_,?_,?_,?_⟩
  · have:=h1.2.2.1 (by omega);omega
  · intro h5;have:=h1.2.2.2.1 (by omega);omega
  · intro h5;have:=h1.2.2.2.2.1 (by omega);omega
  · intro h5;have:=h1.2.2.2.2.2.1 (by omega);omega
  · intro h5;have:=h1.2.2.2.2.2.2.1 (by omega);omega
  · intro h5;have:=h1.2.2.2.2.2.2.2 (by omega);omega
  · omega
theorem A5P (c:Int) (hc0:0<=c) (hc1:c<=255) (w:World):Calls Tryz.prog 128 #[.string ⟨#[48,49,50,51,52,53,54,55,56,57,97,98,99,100,101,102]⟩,.int .u8 c] w fun e w'=>e=.returned (.int .i64 (iX c))/\w'=w :=
 (Tryz.strings_IndexByte _ c w).mono fun e w' ⟨he,hw⟩=>⟨by rw [he];exact eF (A3J hc0 hc1),hw⟩
theorem JG (s:ByteArray) (hs:s.size<=1000000) (a:Nat) (ha:a<=2000000) (m:Nat) (hm:m<=6) (w:World) :
  Calls Tryz.prog 176 #[.string s,.int .i64 (a:Int),.int .i64 (m:Int)] w fun e w'=>e=.returned (.tuple #[.int .i64 (valN s a (hexN s a m)),.int .i64 (hexN s a m:Int)])/\w'=w:=by
 go_enter Tryz.func176,Tryz.ntmps176;go_wp2
 go_loop [8,9] (fun b8 b9=>∃ k:Nat,k<=m/\b9=.int .i64 (k:Int)/\b8=.int .i64 (valN s a k)/\aQ (hexN s a k=k)) (fun _ b9=>m - (intOf b9).toNat)
 case atStart=>exact ⟨0,Nat.zero_le _,rfl,rfl,aH rfl⟩
 case round =>
  obtain ⟨k,hk,rfl,rfl,HA⟩:=hrel;have hv:=Wv HA.o (by omega);obtain ⟨v,hvv⟩:∃ v,valN s a k=v:=⟨_,rfl⟩;have HV:=aH hvv;have hv0:0<=v:=by rw [<- hvv];exact hv.1
  have hv1:v < 16777216:=by rw [<- hvv];exact hv.2.1
  rw [hvv];clear hv hvv;by_cases h1:(k:Int) < m
  ·
   by_cases h2:(a:Int) + k < s.size
   ·
    have hlt:a + k < s.size:=(by omega);obtain ⟨x,hx⟩:∃ x:Int,(s[a + k].toNat:Int)=x:=⟨_,rfl⟩;have HX:=aH (show byt s (a + k)=x by rw [dI hlt,hx]);have hx0:0<=x/\x<=255:=(by rw [<- HX.o];exact tX s (a + k));have hd:=Ty x;obtain ⟨d,hdd⟩:∃ d,iX x=d:=⟨_,rfl⟩;rw [hdd] at hd;have HD:=aH hdd;clear hdd;obtain ⟨hd0,hd1⟩:=hd;obtain ⟨hx0,hx1⟩:=hx0;by_cases h3:0<=d
    ·
     have HA1:=aH (CE HA.o hlt (by rw [HX.o,HD.o];exact h3));have HV1:=aH (show valN s a (k + 1)=v * 16 + d by show valN s a k * 16 + iX (byt s (a + k))=_;rw [HV.o,HX.o,HD.o]);go_wp2_with fail;refine (A5P x hx0 hx1 _).mono ?_;rintro e w' ⟨rfl,rfl⟩;rw [HD.o];go_wp2
     go_round
     case rel=>exact ⟨k + 1,by omega,by go_num,by rw [HV1.o],HA1⟩
     case measure=>simp [intOf];omega
    ·
     have hst:=zZ HA.o (by rw [HX.o,HD.o];omega) (m - k);rw [show k + (m - k)=m by omega] at hst;have HST:=aH hst;clear hst;go_wp2_with fail;refine (A5P x hx0 hx1 _).mono ?_;rintro e w' ⟨rfl,rfl⟩;rw [HD.o];go_wp2
     go_ret2
     exact ⟨A4O (by rw [HST.o,HV.o]) (by rw [HST.o]),rfl⟩
   ·
    have hst:=zZ HA.o (by omega) (m - k);rw [show k + (m - k)=m by omega] at hst;have HST:=aH hst;clear hst;go_wp2
    go_ret2
    exact ⟨A4O (by rw [HST.o,HV.o]) (by rw [HST.o]),rfl⟩
  ·
   obtain rfl:k=m:=(by omega);go_wp2
   go_ret2
   exact ⟨A4O (by rw [HA.o,HV.o]) (by rw [HA.o]),rfl⟩
open Go.PlainAid
def fG (n:Int):Bool:=decide (0<=n) && decide (n<=1114111) && (decide (n < 55296) || decide (57343 < n))
theorem xI (n:Int):fG n=true ↔ 0<=n/\n<=1114111/\(n < 55296\/57343 < n):=by unfold fG;simp [and_assoc]
def oW (n:Int):List Int :=
 if n < 128 then [n] else if n < 2048 then [192 + n / 64,128 + n % 64]
 else if n < 65536 then [224 + n / 4096,128 + n / 64 % 64,128 + n % 64] else [240 + n / 262144,128 + n / 4096 % 64,128 + n / 64 % 64,128 + n % 64]
def encS (n:Int):ByteArray:=if fG n=true then strOfNums (oW n) else ⟨#[]⟩
theorem or8 (a i:Nat) (x:Int) (h0:0<=x) (hx:x < 2 ^ i) (hl:2 ^ i * a + 2 ^ i<=256):bits .or .u8 ((2 ^ i * a:Nat):Int) x=((2 ^ i * a:Nat):Int) + x:=by
 obtain ⟨n,rfl⟩:=Int.eq_ofNat_of_zero_le h0;have hn:n < 2 ^ i:=by exact_mod_cast hx
 rw [u8_or_nat _ _ (by omega) (by omega),<- Nat.two_pow_add_eq_or_of_lt hn a];omega
theorem B5e (x:Int) (h0:0<=x) (hx:x < 64):bits .or .u8 192 x=192 + x:=or8 3 6 x h0 hx (by decide)
theorem B5f (x:Int) (h0:0<=x) (hx:x < 32):bits .or .u8 224 x=224 + x:=or8 7 5 x h0 hx (by decide)
theorem B5g (x:Int) (h0:0<=x) (hx:x < 16):bits .or .u8 240 x=240 + x:=or8 15 4 x h0 hx (by decide)
theorem B5d (x:Int) (h0:0<=x) (hx:x < 64):bits .or .u8 128 x=128 + x:=or8 2 6 x h0 hx (by decide)
theorem BN (k n:Nat) (hk:k<=30) (hn:n < 9223372036854775808):bits .and .i64 (n:Int) ((2 ^ k - 1:Nat):Int)=((n % 2 ^ k:Nat):Int):=by have h2:2 ^ k<=2 ^ 30:=Nat.pow_le_pow_right (by decide) hk;have h3:n % 2 ^ k<=n:=Nat.mod_le _ _;show IntKind.i64.wrap ((BitVec.ofInt 64 (n:Int) &&& BitVec.ofInt 64 ((2 ^ k - 1:Nat):Int)).toNat:Int)=_;rw [BitVec.toNat_and,ofInt_u64 n (by omega),ofInt_u64 _ (by omega),Nat.and_two_pow_sub_one_eq_mod,IntKind.wrap_i64];omega
theorem EI (n:Int) (h0:0<=n) (h1:n<=9223372036854775807):bits .and .i64 n 63=n % 64:=by obtain ⟨x,rfl⟩:=Int.eq_ofNat_of_zero_le h0;exact BN 6 x (by decide) (by omega)
theorem XQ (k:Nat) (hk:k<=8) (b:Nat) (hb:b < 256):bits .and .u8 (b:Int) ((2 ^ k - 1:Nat):Int)=((b % 2 ^ k:Nat):Int):=by have h2:2 ^ k<=2 ^ 8:=Nat.pow_le_pow_right (by decide) hk;rw [u8_and_nat b (2 ^ k - 1) hb (by omega),Nat.and_two_pow_sub_one_eq_mod]
theorem B3h (b:Int) (h0:0<=b) (h1:b<=255):bits .and .u8 b 15=b % 16:=by obtain ⟨n,rfl⟩:=Int.eq_ofNat_of_zero_le h0;exact XQ 4 (by decide) n (by omega)
theorem Jf (n:Int):(oW n).length=if n < 128 then 1 else if n < 2048 then 2 else if n < 65536 then 3 else 4:=by
 unfold oW;split
 · rfl
 ·
  split
  · rfl
  · split <;> rfl
open Go.Sort
theorem jY (xs:List Int) (w:World):(convert 36 9 (.slice (some ⟨w.heap.size,0,none⟩) xs.length xs.length)).run Tryz.prog (w.alloc (.cells (xs.map (Value.int .u8)).toArray 5))=.ok (.string (strOfNums xs)) (w.alloc (.cells (xs.map (Value.int .u8)).toArray 5)):=by refine run_convert_bytes_arg _ 36 5 Tryz.underlying36 Tryz.underlying5 w.heap.size 0 xs.length xs.length xs rfl (fun i hi=>?_) 9 Tryz.underlying9;rw [Nat.zero_add,(Own.fresh w 5 (xs.map (Value.int .u8))).cell i];simp [aG hi]
theorem fI (n:Int) (w:World):Calls Tryz.prog 188 #[.int .i64 n] w fun e w'=>e=.returned (.bool (fG n))/\w=w':=by
 by_cases h1:0<=n <;> by_cases h2:n<=1114111 <;> by_cases h3:n < 55296 <;> by_cases h4:57343 < n
 all_goals first
  | (exfalso;omega)
  | (have H:=aH (show fG n=(decide (0<=n) && decide (n<=1114111) && (decide (n < 55296) || decide (57343 < n))) from rfl)
     go_enter Tryz.func188,Tryz.ntmps188;go_wp2;go_ret
     exact ⟨aJ (by rw [H.o];simp;omega),rfl⟩)
theorem wW (n:Int) (h0:0<=n) (h1:n<=9223372036854775807) (w:World):Calls Tryz.prog 189 #[.int .i64 n] w fun e w'=>e=.returned (.int .u8 (128 + n % 64))/\w=w':=by
 have e1:=EI n h0 h1;have H:=aH (B5d (n % 64) (by omega) (by omega));have e3:n % 64 % 256=n % 64:=by omega
 generalize n % 64=m at *;clear h0 h1;go_enter Tryz.func189,Tryz.ntmps189;go_wp2;go_ret;exact ⟨eF H.o,rfl⟩
theorem xV {a b:ByteArray} {x:Bool} (h:a=b):Ending.returned (.tuple #[.string a,.bool x])=.returned (.tuple #[.string b,.bool x]):=by rw [h]
theorem kP (n:Int) (w:World):Calls Tryz.prog 177 #[.int .i64 n] w fun e w'=>e=.returned (.tuple #[.string (encS n),.bool (fG n)])/\Below w.heap.size w w':=by
 obtain ⟨v,hv⟩:∃ v,fG n=v:=⟨_,rfl⟩;have R:=fI n;rw [hv] at R ⊢;have R':=aH R;clear R
 cases v
 ·
  have HE:=aH (show encS n=⟨#[]⟩ by unfold encS;rw [hv];rfl);clear hv;go_enter Tryz.func177,Tryz.ntmps177;go_wp2_with fail;refine (R'.o _).mono ?_;rintro e w1 ⟨rfl,rfl⟩;go_wp2_with fail
  go_ret2
  exact ⟨xV HE.o.symm,Below.refl _ _⟩
 ·
  have HE:encS n=strOfNums (oW n):=by unfold encS;rw [hv];rfl
  rw [xI] at hv;obtain ⟨h0,h1,-⟩:=hv;by_cases c1:n < 128
  ·
   rw [oW,if_pos c1] at HE;have H:=aH HE;have K:=jY [n];simp only [List.map_cons,List.map_nil,List.length_cons,List.length_nil,Nat.zero_add] at K;clear HE;go_enter Tryz.func177,Tryz.ntmps177;go_wp2_with fail;refine (R'.o _).mono ?_;rintro e w1 ⟨rfl,rfl⟩;go_wp2_with fail
   go_ret2
   exact ⟨xV H.o.symm,by go_grown⟩
  ·
   by_cases c2:n < 2048
   ·
    rw [oW,if_neg c1,if_pos c2] at HE;have H:=aH HE;have e1:bits .or .u8 192 (n / 64)=192 + n / 64:=B5e _ (by omega) (by omega);have K:=jY [192 + n / 64,128 + n % 64];simp only [List.map_cons,List.map_nil,List.length_cons,List.length_nil,Nat.zero_add] at K;have B:=aH (wW n h0 (by omega));clear HE;go_enter Tryz.func177,Tryz.ntmps177;go_wp2_with fail;refine (R'.o _).mono ?_;rintro e w1 ⟨rfl,rfl⟩;go_wp2_with fail;refine (B.o _).mono ?_;rintro e w1 ⟨rfl,rfl⟩;go_wp2_with fail
    go_ret2
    exact ⟨xV H.o.symm,by go_grown⟩
   ·
    by_cases c3:n < 65536
    ·
     rw [oW,if_neg c1,if_neg c2,if_pos c3] at HE;have H:=aH HE;have e1:bits .or .u8 224 (n / 4096)=224 + n / 4096:=B5f _ (by omega) (by omega);have K:=jY [224 + n / 4096,128 + n / 64 % 64,128 + n % 64];simp only [List.map_cons,List.map_nil,List.length_cons,List.length_nil,Nat.zero_add] at K;have B:=aH (wW n h0 (by omega));have B1:=aH (wW (n / 64) (by omega) (by omega));clear HE;go_enter Tryz.func177,Tryz.ntmps177;go_wp2_with fail;refine (R'.o _).mono ?_;rintro e w1 ⟨rfl,rfl⟩;go_wp2_with fail;refine (B1.o _).mono ?_;rintro e w1 ⟨rfl,rfl⟩;go_wp2_with fail;refine (B.o _).mono ?_;rintro e w1 ⟨rfl,rfl⟩;go_wp2_with fail
     go_ret2
     exact ⟨xV H.o.symm,by go_grown⟩
    ·
     rw [oW,if_neg c1,if_neg c2,if_neg c3] at HE;have H:=aH HE;have e1:bits .or .u8 240 (n / 262144)=240 + n / 262144:=B5g _ (by omega) (by omega);have K:=jY [240 + n / 262144,128 + n / 4096 % 64,128 + n / 64 % 64,128 + n % 64];simp only [List.map_cons,List.map_nil,List.length_cons,List.length_nil,Nat.zero_add] at K;have B:=aH (wW n h0 (by omega));have B1:=aH (wW (n / 64) (by omega) (by omega));have B2:=aH (wW (n / 4096) (by omega) (by omega));clear HE;go_enter Tryz.func177,Tryz.ntmps177;go_wp2_with fail;refine (R'.o _).mono ?_;rintro e w1 ⟨rfl,rfl⟩;go_wp2_with fail;refine (B2.o _).mono ?_;rintro e w1 ⟨rfl,rfl⟩;go_wp2_with fail;refine (B1.o _).mono ?_;rintro e w1 ⟨rfl,rfl⟩;go_wp2_with fail;refine (B.o _).mono ?_;rintro e w1 ⟨rfl,rfl⟩;go_wp2_with fail
     go_ret2
     exact ⟨xV H.o.symm,by go_grown⟩
def dgv (d:Int):Int:=if d < 10 then 48 + d else 87 + d
def wrS (sp:ByteArray) (c:Int):ByteArray :=
 if jF sp c=true then strOfNums [c] else if c=10 then ⟨#[92,110]⟩ else if c=9 then ⟨#[92,116]⟩
 else if (c == 92 || isSp sp c)=true then strOfNums [92,c] else strOfNums [92,120,dgv (c / 16),dgv (c % 16)]
theorem B7F (d:Int) (h0:0<=d) (h1:d < 16) (hp:d.toNat < (⟨#[48,49,50,51,52,53,54,55,56,57,97,98,99,100,101,102]⟩:ByteArray).size) :
  (((⟨#[48,49,50,51,52,53,54,55,56,57,97,98,99,100,101,102]⟩:ByteArray)[d.toNat]'hp).toNat:Int)=dgv d:=by
 have key:∀ x:Fin 16,∀ hx:x.val < (⟨#[48,49,50,51,52,53,54,55,56,57,97,98,99,100,101,102]⟩:ByteArray).size,(((⟨#[48,49,50,51,52,53,54,55,56,57,97,98,99,100,101,102]⟩:ByteArray)[x.val]'hx).toNat:Int)=dgv (x.val:Int):=by decide +kernel
 have h:=key ⟨d.toNat,by omega⟩ hp;rw [show ((d.toNat:Nat):Int)=d by omega] at h;exact h
theorem bL {a b:ByteArray} (h:a=b):Ending.returned (.string a)=.returned (.string b):=by rw [h]
theorem yO (sp:ByteArray) (c:Int) (hc0:0<=c) (hc1:c<=255) (w:World):Calls Tryz.prog 102 #[.int .u8 c,.string sp] w fun e w'=>e=.returned (.string (wrS sp c))/\Below w.heap.size w w':=by
 have HS:=aH (show wrS sp c=(if jF sp c=true then strOfNums [c] else if c=10 then ⟨#[92,110]⟩ else if c=9 then ⟨#[92,116]⟩
  else if (c == 92 || isSp sp c)=true then strOfNums [92,c] else strOfNums [92,120,dgv (c / 16),dgv (c % 16)]) from rfl)
 have HP:=aH (fun W=>RJ sp c W);obtain ⟨bp,hbp⟩:∃ bp,jF sp c=bp:=⟨_,rfl⟩;rw [hbp] at HP HS;clear hbp
 cases bp
 ·
  by_cases h1:c=10
  · subst h1;go_enter Tryz.func102,Tryz.ntmps102;go_wp2_with fail;refine (HP.o _).mono ?_;rintro e w1 ⟨rfl,rfl⟩;go_wp2;go_ret;exact ⟨bL (by rw [HS.o];rfl),Below.refl _ _⟩
  ·
   have e1:(c == 10)=false:=aN.2 h1;by_cases h2:c=9
   · subst h2;go_enter Tryz.func102,Tryz.ntmps102;go_wp2_with fail;refine (HP.o _).mono ?_;rintro e w1 ⟨rfl,rfl⟩;go_wp2;go_ret;exact ⟨bL (by rw [HS.o];rfl),Below.refl _ _⟩
   ·
    have e2:(c == 9)=false:=aN.2 h2;obtain ⟨bq,hbq⟩:∃ bq,(c == 92 || isSp sp c)=bq:=⟨_,rfl⟩;have HQ:=aH hbq;clear hbq;have HI:=aH (show isSp sp c=decide (0<=Lib.indexByte sp.data.toList c.toNat.toUInt8) from rfl)
    cases bq
    ·
     have hq:=HQ.o;rw [Bool.or_eq_false_iff] at hq;obtain ⟨e3,e4⟩:=hq;have H4:=aH e4;clear e4;go_enter Tryz.func102,Tryz.ntmps102;go_wp2_with fail;refine (HP.o _).mono ?_;rintro e w1 ⟨rfl,rfl⟩;go_wp2_with fail;refine (Tryz.strings_IndexByte sp c _).mono ?_;rintro e w' ⟨rfl,rfl⟩;have h5:Lib.indexByte sp.data.toList c.toNat.toUInt8 < 0:=(by have h:=H4.o;rw [HI.o,decide_eq_false_iff_not] at h;omega);generalize Lib.indexByte sp.data.toList c.toNat.toUInt8=x at *;have ea:=B3h c hc0 hc1;have hlt1:c / 16 < 16:=(by omega);have hlt0:0<=c / 16:=(by omega);have hlt3:c % 16 < 16:=(by omega);have hlt2:0<=c % 16:=(by omega);have d1:=B7F (c / 16) hlt0 hlt1 (by show (c / 16).toNat < 16;omega);have d2:=B7F (c % 16) hlt2 hlt3 (by show (c % 16).toNat < 16;omega);have HR:=aH (show wrS sp c=strOfNums [92,120,dgv (c / 16),dgv (c % 16)] by rw [HS.o,if_neg (by decide),if_neg h1,if_neg h2,HQ.o];rfl);have K:=jY [92,120,dgv (c / 16),dgv (c % 16)];simp only [List.map_cons,List.map_nil,List.length_cons,List.length_nil,Nat.zero_add,Nat.reduceAdd] at K;have K2:∀ w:World,(convert 36 9 (.slice (some ⟨w.heap.size,0,none⟩) 4 4)).run Tryz.prog ((w.alloc (.cells #[.int .u8 92,.int .u8 120,.int .u8 (dgv (c / 16)),.int .u8 (dgv (c % 16))] 5)).drew)=.ok (.string (strOfNums [92,120,dgv (c / 16),dgv (c % 16)])) ((w.alloc (.cells #[.int .u8 92,.int .u8 120,.int .u8 (dgv (c / 16)),.int .u8 (dgv (c % 16))] 5)).drew):=fun w=>K w.drew;clear HS HQ HI H4 HP K;go_wp2_with fail
     go_still_tail 6,(by kernel_rfl)
     generalize dgv (c / 16)=y1 at *;generalize dgv (c % 16)=y2 at *;clear d1 d2;go_wp2;go_ret;exact ⟨bL HR.o.symm,(bA _).drew⟩
    ·
     have HR:=aH (show wrS sp c=strOfNums [92,c] by rw [HS.o,if_neg (by decide),if_neg h1,if_neg h2,HQ.o];rfl);have K:=jY [92,c];simp only [List.map_cons,List.map_nil,List.length_cons,List.length_nil,Nat.zero_add,Nat.reduceAdd] at K;clear HS;obtain ⟨b3,h3⟩:∃ b3,(c == 92)=b3:=⟨_,rfl⟩
     cases b3
     · have H5:=aH (show 0<=Lib.indexByte sp.data.toList c.toNat.toUInt8 from by have h:=HQ.o;rw [h3,HI.o] at h;simpa using h);clear HQ HI;go_enter Tryz.func102,Tryz.ntmps102;go_wp2_with fail;refine (HP.o _).mono ?_;rintro e w1 ⟨rfl,rfl⟩;go_wp2_with fail;refine (Tryz.strings_IndexByte sp c _).mono ?_;rintro e w' ⟨rfl,rfl⟩;have h5:=H5.o;generalize Lib.indexByte sp.data.toList c.toNat.toUInt8=x at *;go_wp2;go_ret;exact ⟨bL HR.o.symm,by go_grown⟩
     · clear HQ HI;go_enter Tryz.func102,Tryz.ntmps102;go_wp2_with fail;refine (HP.o _).mono ?_;rintro e w1 ⟨rfl,rfl⟩;go_wp2;go_ret;exact ⟨bL HR.o.symm,by go_grown⟩
 · have HR:=aH (show wrS sp c=strOfNums [c] by rw [HS.o,if_pos rfl]);have K:=jY [c];simp only [List.map_cons,List.map_nil,List.length_cons,List.length_nil,Nat.zero_add] at K;clear HS;go_enter Tryz.func102,Tryz.ntmps102;go_wp2_with fail;refine (HP.o _).mono ?_;rintro e w1 ⟨rfl,rfl⟩;go_wp2;go_ret;exact ⟨bL HR.o.symm,by go_grown⟩
theorem kT {s t:ByteArray} (h:s.data.toList=t.data.toList):s=t:=by apply ByteArray.ext;apply Array.ext';exact h
end Go.Proofs.YthkdnehgamefiaaGreat
