import Derived.Test.YthkdnehgamefiaaGreatHe
import Derived.Test.YthkdnehgamefiaaGreatHf
namespace Go.Proofs.YthkdnehgamefiaaGreat
set_option linter.unusedVariables false
set_option maxHeartbeats 1600000
set_option maxRecDepth 1000000
open Go.RowKit
def jL (h:Nat->Bool):Nat->Nat->Nat
 | 0,k=>k
 | f + 1,k=>if k < 255/\h (k + 1)=true then jL h f (k + 1) else k
theorem Kq (h:Nat->Bool):∀ f k,k<=jL h f k
 | 0,k=>Nat.le_refl _
 | f + 1,k=>by unfold jL;split <;> (try have:=Kq h f (k + 1)) <;> omega
theorem Fv (h:Nat->Bool):∀ f k,k<=255->jL h f k<=255
 | 0,k=>id
 | f + 1,k=>fun hk=>by
  unfold jL;split
  · rename_i g;exact Fv h f (k + 1) (by omega)
  · exact hk
theorem Rb {h:Nat->Bool} {f k:Nat} (h1:k < 255) (h2:h (k + 1)=true):jL h (f + 1) k=jL h f (k + 1):=by show (if k < 255/\h (k + 1)=true then _ else _)=_;rw [if_pos ⟨h1,h2⟩]
theorem Cg {h:Nat->Bool} {k:Nat} (f:Nat) (hk:¬ (k < 255/\h (k + 1)=true)):jL h f k=k:=by
 cases f
 · rfl
 · show (if k < 255/\h (k + 1)=true then _ else _)=_;rw [if_neg hk]
def dY (lo hi:Nat):List UInt8:=(wrS spC lo).data.toList ++ ((if lo + 1 < hi then [45] else []) ++ (if lo < hi then (wrS spC hi).data.toList else []))
theorem Lf (sp:ByteArray) (c:Int):(wrS sp c).data.toList.length<=4:=by
 have h2:=pM sp c;have h3:(wrS sp c).data.toList.length=(wrS sp c).size:=by simp
 omega
theorem Ce (lo hi:Nat):(dY lo hi).length<=9:=by have h1:=Lf spC lo;have h2:=Lf spC hi;unfold dY;rw [List.length_append,List.length_append];split <;> split <;> simp only [List.length_cons,List.length_nil] <;> omega
def oK (h:Nat->Bool):Nat->Nat->List UInt8
 | 0,_=>[]
 | f + 1,low=>if low < 256 then (if h low=true then dY low (jL h 255 low) ++ oK h f (jL h 255 low + 1) else oK h f (low + 1)) else []
theorem EX (h:Nat->Bool):∀ f low,(oK h f low).length<=9 * f
 | 0,_=>Nat.le_refl _
 | f + 1,low=>by
  unfold oK;split
  ·
   split
   · have h1:=Ce low (jL h 255 low);have h2:=EX h f (jL h 255 low + 1);rw [List.length_append];omega
   · have h2:=EX h f (low + 1);omega
  · simp
theorem Ls {h:Nat->Bool} {f low:Nat} (h1:low < 256) (h2:h low=true):oK h (f + 1) low=dY low (jL h 255 low) ++ oK h f (jL h 255 low + 1):=by show (if low < 256 then (if h low=true then _ else _) else _)=_;rw [if_pos h1,if_pos h2]
theorem Aq {h:Nat->Bool} {f low:Nat} (h1:low < 256) (h2:h low=false):oK h (f + 1) low=oK h f (low + 1):=by show (if low < 256 then (if h low=true then _ else _) else _)=_;rw [if_pos h1,if_neg (by rw [h2];decide)]
theorem Ea (h:Nat->Bool) (f:Nat) {low:Nat} (h1:¬ low < 256):oK h f low=[]:=by
 cases f
 · rfl
 · show (if low < 256 then (if h low=true then _ else _) else _)=_;rw [if_neg h1]
def A2x (h:Nat->Bool):List UInt8:=[91] ++ oK h 257 0
theorem Sv (h:Nat->Bool):(A2x h).length<=2400:=by have:=EX h 257 0;unfold A2x;rw [List.length_append];simp only [List.length_cons,List.length_nil];omega
def dF (h:Nat->Bool):ByteArray:=ofL (A2x h ++ [93])
theorem YZ {h:Nat->Bool} {acc tot:List UInt8} {f low:Nat} (ht:acc ++ oK h f low=tot) (hf:256 < f + low) (h1:low < 256) (h2:h low=true) :
  (acc ++ dY low (jL h 255 low)) ++ oK h (f - 1) (jL h 255 low + 1)=tot:=by
 obtain ⟨g,rfl⟩:∃ g,f=g + 1:=⟨f - 1,by omega⟩;rw [Ls h1 h2,<- List.append_assoc] at ht;exact ht
theorem YY {h:Nat->Bool} {acc tot:List UInt8} {f low:Nat} (ht:acc ++ oK h f low=tot) (hf:256 < f + low) (h1:low < 256) (h2:h low=false) :
  acc ++ oK h (f - 1) (low + 1)=tot:=by
 obtain ⟨g,rfl⟩:∃ g,f=g + 1:=⟨f - 1,by omega⟩;rw [Aq h1 h2] at ht;exact ht
theorem ZA {h:Nat->Bool} {acc tot:List UInt8} {f low:Nat} (ht:acc ++ oK h f low=tot) (h1:¬ low < 256):acc=tot:=by rw [Ea h f h1,List.append_nil] at ht;exact ht
theorem UG {h:Nat->Bool} {acc tot:List UInt8} {f low:Nat} (ht:acc ++ oK h f low=tot) (hl:tot.length<=2400):acc.length<=2400:=by rw [<- ht,List.length_append] at hl;omega
open Go.Sort Go.PlainAid
def Reads (o:Option (ByteArray × Nat)) (t:ByteArray) (n:Int) (b:Bool):Prop :=
 match o with
 | none=>b=false
 | some (u,m)=>b=true/\t=u/\n=(m:Int)
def Ends (o:Option (ByteArray × Nat)) (e:Ending):Prop:=∃ t n b,e=.returned (.tuple #[.string t,.int .i64 n,.bool b])/\Reads o t n b
theorem jJ {o:Option (ByteArray × Nat)} (h:o=none) (t:ByteArray) (n:Int):Ends o (.returned (.tuple #[.string t,.int .i64 n,.bool false])):=⟨t,n,false,rfl,by rw [h];rfl⟩
theorem oZ {o:Option (ByteArray × Nat)} {u t:ByteArray} {m:Nat} {n:Int} (h:o=some (u,m)) (ht:t=u) (hn:n=(m:Int)):Ends o (.returned (.tuple #[.string t,.int .i64 n,.bool true])) :=
 ⟨t,n,true,rfl,by rw [h];exact ⟨rfl,ht,hn⟩⟩
theorem BV {o:Option (ByteArray × Nat)} {u t:ByteArray} {m:Nat} {n:Int} {b:Bool} (h:o=if b=true then some (u,m) else none) (ht:t=u) (hn:n=(m:Int)):Ends o (.returned (.tuple #[.string t,.int .i64 n,.bool b])):=by
 cases b
 · exact jJ h t n
 · exact oZ h ht hn
theorem one_byte {s:ByteArray} {k:Nat} (h:k < s.size):s.extract k (k + 1)=strOfNums [byt s k]:=by
 apply kT;have h':k < s.data.toList.length:=by simpa using h
 rw [ByteArray.data_extract];simp only [Array.toList_extract,List.extract_eq_take_drop,strOfNums];rw [show k + 1 - k=1 by omega,List.drop_eq_getElem_cons h',List.take_succ_cons,List.take_zero];simp [byt,List.getD_eq_getElem?_getD,aG h']
def signO (s:ByteArray) (a:Nat):Option (ByteArray × Nat) :=
 if 0 < hexN s a 6/\bG s ((a + hexN s a 6:Nat):Int) 125=true/\fG (valN s a (hexN s a 6))=true then some (encS (valN s a (hexN s a 6)),a + hexN s a 6 + 1) else none
theorem A2N {s:ByteArray} {a k:Nat} (h:hexN s a 6=k):signO s a=if 0 < k/\bG s ((a + k:Nat):Int) 125=true/\fG (valN s a k)=true then some (encS (valN s a k),a + k + 1) else none:=by unfold signO;rw [h]
theorem jR {s:ByteArray} {k:Nat} {c:Int} (h:¬ k < s.size):bG s (k:Int) c=false:=by unfold bG;rw [aF (by omega:¬ (k:Int) < (s.size:Int))];simp
theorem gG {s:ByteArray} {k:Nat} {c:Int} (h:k < s.size):bG s (k:Int) c=(byt s k == c):=by unfold bG;rw [aT (by omega:(k:Int) < (s.size:Int)),aT (by omega:(0:Int)<=(k:Int))];simp
theorem Xo (s:ByteArray) (a:Nat):∀ m,hexN s a (hexN s a m)=hexN s a m
 | 0=>rfl
 | m + 1=>by
  by_cases h:hexN s a m=m/\a + m < s.size/\0<=iX (byt s (a + m))
  · have e:hexN s a (m + 1)=m + 1:=(by show (if _ then _ else _)=_;rw [if_pos h]);rw [e];exact e
  · have e:hexN s a (m + 1)=hexN s a m:=(by show (if _ then _ else _)=_;rw [if_neg h]);rw [e];exact Xo s a m
def escO (s:ByteArray) (k:Nat) (sp:ByteArray):Option (ByteArray × Nat) :=
 if k < s.size then
  if byt s k=110 then some (⟨#[10]⟩,k + 1) else if byt s k=116 then some (⟨#[9]⟩,k + 1)
  else if (byt s k == 92 || isSp sp (byt s k))=true then some (strOfNums [byt s k],k + 1)
  else if byt s k=120 then (if hexN s (k + 1) 2=2 then some (strOfNums [valN s (k + 1) 2],k + 3) else none)
  else if byt s k=117/\bG s ((k + 1:Nat):Int) 123=true then signO s (k + 2) else none
 else none
theorem kW {s:ByteArray} {k:Nat} {sp:ByteArray} {c:Int} (hk:k < s.size) (hc:byt s k=c):escO s k sp =
  if c=110 then some (⟨#[10]⟩,k + 1) else if c=116 then some (⟨#[9]⟩,k + 1)
  else if (c == 92 || isSp sp c)=true then some (strOfNums [c],k + 1)
  else if c=120 then (if hexN s (k + 1) 2=2 then some (strOfNums [valN s (k + 1) 2],k + 3) else none)
  else if c=117/\bG s ((k + 1:Nat):Int) 123=true then signO s (k + 2) else none:=by
 unfold escO;rw [if_pos hk,hc]
theorem ZR (s:ByteArray) (hs:s.size<=1000000) (k:Nat) (hk:k < s.size) (sp:ByteArray) (w:World) :
  Calls Tryz.prog 159 #[.string s,.int .i64 (k:Int),.string sp] w fun e w'=>Ends (escO s k sp) e/\Below w.heap.size w w':=by
 obtain ⟨c,hc⟩:∃ c:Int,(s[k].toNat:Int)=c:=⟨_,rfl⟩;have hbc:byt s k=c:=by rw [dI hk,hc]
 have HF:=aH (kW (sp:=sp) hk hbc);obtain ⟨hc0,hc1⟩:0<=c/\c<=255:=by rw [<- hbc];exact tX s k
 have HX1:=aH (one_byte hk);rw [hbc] at HX1;have HA:=aH (fun m hm W=>JG s hs (k + 1) (by omega) m hm W);have HA2:=aH (fun m hm W=>JG s hs (k + 2) (by omega) m hm W);rw [show ((k + 1:Nat):Int)=(k:Int) + 1 by omega] at HA;rw [show ((k + 2:Nat):Int)=(k:Int) + 2 by omega] at HA2;obtain ⟨o,ho⟩:∃ o,escO s k sp=o:=⟨_,rfl⟩;rw [ho] at HF ⊢;clear ho hbc;have hsl:(k:Int) + 1<=s.size:=by omega
 by_cases h1:c=110
 ·
  subst h1;have HO:=aH (show o=some (⟨#[10]⟩,k + 1) by rw [HF.o];rfl);clear HF HX1 HA HA2;go_enter Tryz.func159,Tryz.ntmps159;go_wp2
  go_ret3
  exact ⟨oZ HO.o rfl (by omega),Below.refl _ _⟩
 have e1:(c == 110)=false:=aN.2 h1;by_cases h2:c=116
 ·
  subst h2;have HO:=aH (show o=some (⟨#[9]⟩,k + 1) by rw [HF.o];rfl);clear HF HX1 HA HA2;go_enter Tryz.func159,Tryz.ntmps159;go_wp2
  go_ret3
  exact ⟨oZ HO.o rfl (by omega),Below.refl _ _⟩
 have e2:(c == 116)=false:=aN.2 h2;have HI:=aH (show isSp sp c=decide (0<=Lib.indexByte sp.data.toList c.toNat.toUInt8) from rfl);obtain ⟨x,hx⟩:∃ x,Lib.indexByte sp.data.toList c.toNat.toUInt8=x:=⟨_,rfl⟩;rw [hx] at HI;have HS:=aH (fun W=>Tryz.strings_IndexByte sp c W);rw [hx] at HS;clear hx;by_cases h3:c=92
 ·
  subst h3;have HO:=aH (show o=some (strOfNums [92],k + 1) by rw [HF.o,if_neg h1,if_neg h2,if_pos (by simp)]);clear HF HA HA2 HI HS;go_enter Tryz.func159,Tryz.ntmps159;go_wp2
  go_ret3
  exact ⟨oZ HO.o HX1.o (by omega),Below.refl _ _⟩
 have e3:(c == 92)=false:=aN.2 h3;by_cases h4:0<=x
 ·
  have HO:=aH (show o=some (strOfNums [c],k + 1) by rw [HF.o,if_neg h1,if_neg h2,HI.o,aT h4];simp);clear HF HA HA2 HI;go_enter Tryz.func159,Tryz.ntmps159;go_wp2_with fail;refine (HS.o _).mono ?_;rintro e w1 ⟨rfl,rfl⟩;go_wp2
  go_ret3
  exact ⟨oZ HO.o HX1.o (by omega),Below.refl _ _⟩
 have HF2:=aH (show o=if c=120 then (if hexN s (k + 1) 2=2 then some (strOfNums [valN s (k + 1) 2],k + 3) else none)
  else if c=117/\bG s ((k + 1:Nat):Int) 123=true then signO s (k + 2) else none by rw [HF.o,if_neg h1,if_neg h2,HI.o,aF h4,e3];simp)
 clear HF HI HX1;by_cases h5:c=120
 ·
  subst h5;obtain ⟨n,hn⟩:∃ n,hexN s (k + 1) 2=n:=⟨_,rfl⟩;have hn2:n<=2:=by rw [<- hn];exact Gx ..
  have hv:=Wv (Xo s (k + 1) 2) (by rw [hn];omega);rw [hn] at hv;have HB:=aH (HA.o 2 (by omega));rw [hn,show ((2:Nat):Int)=2 from rfl] at HB;obtain ⟨v,hvv⟩:∃ v,valN s (k + 1) n=v:=⟨_,rfl⟩;rw [hvv] at HB hv;have hv0:=hv.1;have hv1:v < 256:=hv.2.2.2.2.2.1 hn2
  have HO:=aH (show o=if ((n:Int) == 2)=true then some (strOfNums [v],k + 3) else none by
   rw [HF2.o,if_pos rfl,hn];by_cases g:n=2
   · subst g;rw [hvv];rfl
   · rw [if_neg g,if_neg (by simp;omega)])
  have K:=jY [v];simp only [List.map_cons,List.map_nil,List.length_cons,List.length_nil,Nat.zero_add] at K;have ew:IntKind.u8.wrap v=v:=by rw [IntKind.wrap_u8];omega
  clear HF2 HA HA2 hvv hv hn;go_enter Tryz.func159,Tryz.ntmps159;go_wp2_with fail;refine (HS.o _).mono ?_;rintro e w1 ⟨rfl,rfl⟩;go_wp2_with fail;refine (HB.o _).mono ?_;rintro e w1 ⟨rfl,rfl⟩;go_wp2
  go_ret3
  exact ⟨BV HO.o rfl (by omega),by go_grown⟩
 have e5:(c == 120)=false:=aN.2 h5;by_cases h6:c=117
 ·
  subst h6;have HC:=aH (fun W=>oQ s ((k:Int) + 1) 123 W);obtain ⟨b,hb⟩:∃ b,bG s ((k:Int) + 1) 123=b:=⟨_,rfl⟩;rw [hb] at HC;have HF3:=aH (show o=if b=true then signO s (k + 2) else none by rw [HF2.o,if_neg (by decide),show ((k + 1:Nat):Int)=(k:Int) + 1 by omega,hb];simp);clear HF2 hb HA
  cases b
  ·
   have HO:=aH (show o=none by rw [HF3.o];simp);clear HF3 HA2;go_enter Tryz.func159,Tryz.ntmps159;go_wp2_with fail;refine (HS.o _).mono ?_;rintro e w1 ⟨rfl,rfl⟩;go_wp2_with fail;refine (HC.o _).mono ?_;rintro e w1 ⟨rfl,rfl⟩;go_wp2
   go_ret3
   exact ⟨jJ HO.o _ _,Below.refl _ _⟩
  ·
   obtain ⟨n,hn⟩:∃ n,hexN s (k + 2) 6=n:=⟨_,rfl⟩;have hn2:n<=6:=(by rw [<- hn];exact Gx ..);have hv:=Wv (Xo s (k + 2) 6) (by rw [hn];omega);rw [hn] at hv;have HB:=aH (HA2.o 6 (by omega));rw [hn,show ((6:Nat):Int)=6 from rfl] at HB;have HF4:=aH ((show o=signO s (k + 2) by rw [HF3.o,if_pos rfl]).trans (A2N hn));obtain ⟨v,hvv⟩:∃ v,valN s (k + 2) n=v:=⟨_,rfl⟩;rw [hvv] at HB hv HF4;have hv0:=hv.1;have hv1:v < 16777216:=hv.2.1;have HE:=aH (fun W=>kP v W);obtain ⟨r,hr⟩:∃ r,fG v=r:=⟨_,rfl⟩;rw [hr] at HE HF4;have HD:=aH (fun W=>oQ s ((k:Int) + 2 + (n:Int)) 125 W);obtain ⟨b,hb⟩:∃ b,bG s ((k:Int) + 2 + (n:Int)) 125=b:=⟨_,rfl⟩;rw [hb] at HD;rw [show ((k + 2 + n:Nat):Int)=(k:Int) + 2 + (n:Int) by omega,hb] at HF4;clear HF3 HA2 hb hr hvv hv hn;have hn0:(0:Int)<=(n:Int):=Int.natCast_nonneg _;by_cases g:r=true/\(0:Int) < (n:Int)
   ·
    obtain ⟨rfl,g⟩:=g;have gn:0 < n:=(by omega);have HO:=aH (show o=if b=true then some (encS v,k + 2 + n + 1) else none by rw [HF4.o];simp [gn]);clear HF4;go_enter Tryz.func159,Tryz.ntmps159;go_wp2_with fail;refine (HS.o _).mono ?_;rintro e w1 ⟨rfl,rfl⟩;go_wp2_with fail;refine (HC.o _).mono ?_;rintro e w1 ⟨rfl,rfl⟩;go_wp2_with fail;refine (HB.o _).mono ?_;rintro e w1 ⟨rfl,rfl⟩;go_wp2_with fail;refine (HE.o _).mono ?_;rintro e w1 ⟨rfl,hb1⟩;go_wp2_with fail;refine (HD.o _).mono ?_;rintro e w1 ⟨rfl,rfl⟩;go_wp2
    go_ret3
    exact ⟨BV HO.o rfl (by omega),hb1⟩
   ·
    have HO:=aH (show o=none by
     rw [HF4.o]
     cases r
     · simp
     ·
      have:¬ 0 < n:=by intro h;exact g ⟨rfl,by omega⟩
      simp [this])
    have g':r=false\/r=true/\¬ (0:Int) < (n:Int):=by
     cases r
     · exact .inl rfl
     · exact .inr ⟨rfl,fun h=>g ⟨rfl,h⟩⟩
    clear HF4 HD g;rcases g' with rfl | ⟨rfl,g⟩
    all_goals
     go_enter Tryz.func159,Tryz.ntmps159;go_wp2_with fail;refine (HS.o _).mono ?_;rintro e w1 ⟨rfl,rfl⟩;go_wp2_with fail;refine (HC.o _).mono ?_;rintro e w1 ⟨rfl,rfl⟩;go_wp2_with fail;refine (HB.o _).mono ?_;rintro e w1 ⟨rfl,rfl⟩;go_wp2_with fail;refine (HE.o _).mono ?_;rintro e w1 ⟨rfl,hb1⟩;go_wp2
     go_ret3
     exact ⟨jJ HO.o _ _,hb1⟩
 have e6:(c == 117)=false:=aN.2 h6;have HO:=aH (show o=none by rw [HF2.o,if_neg h5,if_neg (fun h=>h6 h.1)]);clear HF2 HA HA2;go_enter Tryz.func159,Tryz.ntmps159;go_wp2_with fail;refine (HS.o _).mono ?_;rintro e w1 ⟨rfl,rfl⟩;go_wp2
 go_ret3
 exact ⟨jJ HO.o _ _,Below.refl _ _⟩
def readO (s:ByteArray) (k:Nat) (sp:ByteArray):Option (ByteArray × Nat) :=
 if k < s.size then (if jF sp (byt s k)=true then some (strOfNums [byt s k],k + 1) else if byt s k=92 then escO s (k + 1) sp else none) else none
theorem jB {s:ByteArray} {k:Nat} {sp:ByteArray} {c:Int} (hk:k < s.size) (hc:byt s k=c):readO s k sp =
  if jF sp c=true then some (strOfNums [c],k + 1) else if c=92 then escO s (k + 1) sp else none:=by
 unfold readO;rw [if_pos hk,hc]
theorem qN {s:ByteArray} {k:Nat} {sp:ByteArray} (h:¬ k < s.size):escO s k sp=none:=by unfold escO;rw [if_neg h]
theorem mF {s:ByteArray} {k:Nat} {sp:ByteArray} (h:¬ k < s.size):readO s k sp=none:=by unfold readO;rw [if_neg h]
theorem A1d (s:ByteArray) (hs:s.size<=1000000) (k:Nat) (hk2:k<=2000000) (sp:ByteArray) (w:World) :
  Calls Tryz.prog 139 #[.string s,.int .i64 (k:Int),.string sp] w fun e w'=>Ends (readO s k sp) e/\Below w.heap.size w w':=by
 by_cases hk:k < s.size
 ·
  obtain ⟨c,hc⟩:∃ c:Int,(s[k].toNat:Int)=c:=⟨_,rfl⟩;have hbc:byt s k=c:=by rw [dI hk,hc]
  have HF:=aH (jB (sp:=sp) hk hbc);obtain ⟨hc0,hc1⟩:0<=c/\c<=255:=by rw [<- hbc];exact tX s k
  have HX1:=aH (one_byte hk);rw [hbc] at HX1;obtain ⟨o,ho⟩:∃ o,readO s k sp=o:=⟨_,rfl⟩;rw [ho] at HF ⊢;clear ho hbc;have hsl:(k:Int) + 1<=s.size:=by omega
  have HP:=aH (fun W=>RJ sp c W);obtain ⟨bp,hbp⟩:∃ bp,jF sp c=bp:=⟨_,rfl⟩;rw [hbp] at HP HF;clear hbp
  cases bp
  ·
   by_cases h1:c=92
   ·
    subst h1;by_cases h2:k + 1 < s.size
    ·
     have HE:=aH (fun W=>ZR s hs (k + 1) h2 sp W);rw [show ((k + 1:Nat):Int)=(k:Int) + 1 by omega,show escO s (k + 1) sp=o by rw [HF.o];simp] at HE;have h3:(k:Int) + 1 < s.size:=(by omega);clear HF HX1;go_enter Tryz.func139,Tryz.ntmps139;go_wp2_with fail;refine (HP.o _).mono ?_;rintro e w1 ⟨rfl,rfl⟩;go_wp2_with fail;refine (HE.o _).mono ?_;rintro e w1 ⟨⟨t,n,b,rfl,hr⟩,hb1⟩;go_wp2
     go_ret3
     exact ⟨⟨t,n,b,rfl,hr⟩,hb1⟩
    ·
     have HO:=aH (show o=none by rw [HF.o,qN h2];simp);clear HF HX1;go_enter Tryz.func139,Tryz.ntmps139;go_wp2_with fail;refine (HP.o _).mono ?_;rintro e w1 ⟨rfl,rfl⟩;go_wp2
     go_ret3
     exact ⟨jJ HO.o _ _,Below.refl _ _⟩
   ·
    have e1:(c == 92)=false:=aN.2 h1;have HO:=aH (show o=none by rw [HF.o,if_neg h1];simp);clear HF HX1;go_enter Tryz.func139,Tryz.ntmps139;go_wp2_with fail;refine (HP.o _).mono ?_;rintro e w1 ⟨rfl,rfl⟩;go_wp2
    go_ret3
    exact ⟨jJ HO.o _ _,Below.refl _ _⟩
  ·
   have HO:=aH (show o=some (strOfNums [c],k + 1) by rw [HF.o];simp);clear HF;go_enter Tryz.func139,Tryz.ntmps139;go_wp2_with fail;refine (HP.o _).mono ?_;rintro e w1 ⟨rfl,rfl⟩;go_wp2
   go_ret3
   exact ⟨oZ HO.o HX1.o (by omega),Below.refl _ _⟩
 ·
  have HO:=aH (mF (sp:=sp) hk);go_enter Tryz.func139,Tryz.ntmps139;go_wp2
  go_ret3
  exact ⟨jJ HO.o _ _,Below.refl _ _⟩
end Go.Proofs.YthkdnehgamefiaaGreat
