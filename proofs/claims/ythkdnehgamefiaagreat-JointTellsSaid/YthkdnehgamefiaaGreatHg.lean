import Derived.Test.YthkdnehgamefiaaGreatHe
import Derived.Test.YthkdnehgamefiaaGreatHf
namespace Go.Proofs.YthkdnehgamefiaaGreat
set_option linter.unusedVariables false
set_option maxHeartbeats 1600000
open Go.RowKit
theorem Zi {c:Int} (h0:0<=c) (h1:c<=255) (h:isSp spC c=true):32<=c/\c<=126:=by rw [B8A h0 h1] at h;simp at h;omega
open Go.Sort Go.PlainAid
theorem Ib (n:Int) (w:World):Calls Tryz.prog 193 #[.int .i64 n] w fun e w'=>e=.returned (.bool (fG n))/\w=w':=by
 by_cases h1:0<=n <;> by_cases h2:n<=1114111 <;> by_cases h3:n < 55296 <;> by_cases h4:57343 < n
 all_goals first
  | (exfalso;omega)
  | (have H:=aH (show fG n=(decide (0<=n) && decide (n<=1114111) && (decide (n < 55296) || decide (57343 < n))) from rfl)
     go_enter Tryz.func193,Tryz.ntmps193;go_wp2;go_ret
     exact ⟨aJ (by rw [H.o];simp;omega),rfl⟩)
theorem uP (n:Int) (w:World):Calls Tryz.prog 185 #[.int .i64 n] w fun e w'=>e=.returned (.tuple #[.string (encS n),.bool (fG n)])/\Below w.heap.size w w':=by
 obtain ⟨v,hv⟩:∃ v,fG n=v:=⟨_,rfl⟩;have R:=Ib n;rw [hv] at R ⊢;have R':=aH R;clear R
 cases v
 ·
  have HE:=aH (show encS n=⟨#[]⟩ by unfold encS;rw [hv];rfl);clear hv;go_enter Tryz.func185,Tryz.ntmps185;go_wp2_with fail;refine (R'.o _).mono ?_;rintro e w1 ⟨rfl,rfl⟩;go_wp2_with fail
  go_ret2
  exact ⟨xV HE.o.symm,Below.refl _ _⟩
 ·
  have HE:encS n=strOfNums (oW n):=by unfold encS;rw [hv];rfl
  rw [xI] at hv;obtain ⟨h0,h1,-⟩:=hv;by_cases c1:n < 128
  ·
   rw [oW,if_pos c1] at HE;have H:=aH HE;have K:=jY [n];simp only [List.map_cons,List.map_nil,List.length_cons,List.length_nil,Nat.zero_add] at K;clear HE;go_enter Tryz.func185,Tryz.ntmps185;go_wp2_with fail;refine (R'.o _).mono ?_;rintro e w1 ⟨rfl,rfl⟩;go_wp2_with fail
   go_ret2
   exact ⟨xV H.o.symm,by go_grown⟩
  ·
   by_cases c2:n < 2048
   ·
    rw [oW,if_neg c1,if_pos c2] at HE;have H:=aH HE;have e1:bits .or .i64 192 (n / 64)=192 + n / 64:=B1s _ (by omega) (by omega);have a1:=EI n h0 (by omega);have o1:=Ff (n % 64) (by omega) (by omega);have K:=jY [192 + n / 64,128 + n % 64];simp only [List.map_cons,List.map_nil,List.length_cons,List.length_nil,Nat.zero_add] at K;clear HE;go_enter Tryz.func185,Tryz.ntmps185;go_wp2_with fail;refine (R'.o _).mono ?_;rintro e w1 ⟨rfl,rfl⟩;go_wp2_with fail
    go_ret2
    exact ⟨xV H.o.symm,by go_grown⟩
   ·
    by_cases c3:n < 65536
    ·
     rw [oW,if_neg c1,if_neg c2,if_pos c3] at HE;have H:=aH HE;have e1:bits .or .i64 224 (n / 4096)=224 + n / 4096:=B1t _ (by omega) (by omega);have a1:=EI n h0 (by omega);have o1:=Ff (n % 64) (by omega) (by omega);have a2:=EI (n / 64) (by omega) (by omega);have o2:=Ff (n / 64 % 64) (by omega) (by omega);have K:=jY [224 + n / 4096,128 + n / 64 % 64,128 + n % 64];simp only [List.map_cons,List.map_nil,List.length_cons,List.length_nil,Nat.zero_add] at K;clear HE;go_enter Tryz.func185,Tryz.ntmps185;go_wp2_with fail;refine (R'.o _).mono ?_;rintro e w1 ⟨rfl,rfl⟩;go_wp2_with fail
     go_ret2
     exact ⟨xV H.o.symm,by go_grown⟩
    ·
     rw [oW,if_neg c1,if_neg c2,if_neg c3] at HE;have H:=aH HE;have e1:bits .or .i64 240 (n / 262144)=240 + n / 262144:=B1u _ (by omega) (by omega);have a1:=EI n h0 (by omega);have o1:=Ff (n % 64) (by omega) (by omega);have a2:=EI (n / 64) (by omega) (by omega);have o2:=Ff (n / 64 % 64) (by omega) (by omega);have a3:=EI (n / 4096) (by omega) (by omega);have o3:=Ff (n / 4096 % 64) (by omega) (by omega);have K:=jY [240 + n / 262144,128 + n / 4096 % 64,128 + n / 64 % 64,128 + n % 64];simp only [List.map_cons,List.map_nil,List.length_cons,List.length_nil,Nat.zero_add] at K;clear HE;go_enter Tryz.func185,Tryz.ntmps185;go_wp2_with fail;refine (R'.o _).mono ?_;rintro e w1 ⟨rfl,rfl⟩;go_wp2_with fail
     go_ret2
     exact ⟨xV H.o.symm,by go_grown⟩
def Reads (o:Option (ByteArray × Nat)) (t:ByteArray) (n:Int) (b:Bool):Prop :=
 match o with
 | none=>b=false
 | some (u,m)=>b=true/\t=u/\n=(m:Int)
def Ends (o:Option (ByteArray × Nat)) (e:Ending):Prop:=∃ t n b,e=.returned (.tuple #[.string t,.int .i64 n,.bool b])/\Reads o t n b
theorem jJ {o:Option (ByteArray × Nat)} (h:o=none) (t:ByteArray) (n:Int):Ends o (.returned (.tuple #[.string t,.int .i64 n,.bool false])):=⟨t,n,false,rfl,by rw [h];rfl⟩
theorem oZ {o:Option (ByteArray × Nat)} {u t:ByteArray} {m:Nat} {n:Int} (h:o=some (u,m)) (ht:t=u) (hn:n=(m:Int)):Ends o (.returned (.tuple #[.string t,.int .i64 n,.bool true])) :=
 ⟨t,n,true,rfl,by rw [h];exact ⟨rfl,ht,hn⟩⟩
theorem BV {o:Option (ByteArray × Nat)} {u t:ByteArray} {m:Nat} {n:Int} {b:Bool} (h:o=if b=true then some (u,m) else none) (ht:t=u) (hn:n=(m:Int)):Ends o (.returned (.tuple #[.string t,.int .i64 n,.bool b])):=by
 cases b
 · exact jJ h t n
 · exact oZ h ht hn
theorem one_byte {s:ByteArray} {k:Nat} (h:k < s.size):s.extract k (k + 1)=strOfNums [byt s k]:=by
 apply kT;have h':k < s.data.toList.length:=by simpa using h
 rw [ByteArray.data_extract];simp only [Array.toList_extract,List.extract_eq_take_drop,strOfNums];rw [show k + 1 - k=1 by omega,List.drop_eq_getElem_cons h',List.take_succ_cons,List.take_zero];simp [byt,List.getD_eq_getElem?_getD,aG h']
def signO (s:ByteArray) (a:Nat):Option (ByteArray × Nat) :=
 if 0 < hexN s a 6/\bG s ((a + hexN s a 6:Nat):Int) 125=true/\fG (valN s a (hexN s a 6))=true then some (encS (valN s a (hexN s a 6)),a + hexN s a 6 + 1) else none
theorem A2N {s:ByteArray} {a k:Nat} (h:hexN s a 6=k):signO s a=if 0 < k/\bG s ((a + k:Nat):Int) 125=true/\fG (valN s a k)=true then some (encS (valN s a k),a + k + 1) else none:=by unfold signO;rw [h]
theorem jR {s:ByteArray} {k:Nat} {c:Int} (h:¬ k < s.size):bG s (k:Int) c=false:=by unfold bG;rw [aF (by omega:¬ (k:Int) < (s.size:Int))];simp
theorem gG {s:ByteArray} {k:Nat} {c:Int} (h:k < s.size):bG s (k:Int) c=(byt s k == c):=by unfold bG;rw [aT (by omega:(k:Int) < (s.size:Int)),aT (by omega:(0:Int)<=(k:Int))];simp
theorem A8V (s:ByteArray) (hs:s.size<=1000000) (a:Nat) (ha:a<=2000000) (w:World) :
  Calls Tryz.prog 170 #[.string s,.int .i64 (a:Int)] w fun e w'=>Ends (signO s a) e/\Below w.heap.size w w':=by
 have HF:=aH (fun k (h:hexN s a 6=k)=>A2N (s:=s) h);obtain ⟨o,ho⟩:∃ o,signO s a=o:=⟨_,rfl⟩;rw [ho] at HF ⊢;clear ho;go_enter Tryz.func170,Tryz.ntmps170;go_wp2
 go_loop [7,8] (fun b7 b8=>∃ k:Nat,k<=6/\b8=.int .i64 ((a + k:Nat):Int)/\b7=.int .i64 (valN s a k)/\aQ (hexN s a k=k)) (fun _ b8=>a + 6 - (intOf b8).toNat)
 case atStart=>exact ⟨0,Nat.zero_le _,rfl,rfl,aH rfl⟩
 case round =>
  obtain ⟨k,hk,rfl,rfl,HA⟩:=hrel;have hv:=Wv HA.o (by omega);obtain ⟨v,hvv⟩:∃ v,valN s a k=v:=⟨_,rfl⟩;have HV:=aH hvv;have hv0:0<=v:=by rw [<- hvv];exact hv.1
  have hv1:v < 16777216:=by rw [<- hvv];exact hv.2.1
  rw [hvv];clear hv hvv;by_cases h2:a + k < s.size
  ·
   obtain ⟨x,hx⟩:∃ x:Int,(s[a + k].toNat:Int)=x:=⟨_,rfl⟩;have HX:=aH (show byt s (a + k)=x by rw [dI h2,hx]);have hx0:0<=x/\x<=255:=(by rw [<- HX.o];exact tX s (a + k));have hd:=Ty x;obtain ⟨d,hdd⟩:∃ d,iX x=d:=⟨_,rfl⟩;rw [hdd] at hd;have HD:=aH hdd;clear hdd;obtain ⟨hd0,hd1⟩:=hd;obtain ⟨hx0,hx1⟩:=hx0;have HH:=aH (fun W=>VG x hx0 hx1 W);have HST:=aH (show bG s ((a + k:Nat):Int) 125=(x == 125) by rw [gG h2,HX.o]);have HC:=aH (fun W=>uP v W);by_cases h1:k < 6/\0<=d
   ·
    obtain ⟨h1,h3⟩:=h1;have HA1:=aH (CE HA.o h2 (by rw [HX.o,HD.o];exact h3));have HV1:=aH (show valN s a (k + 1)=16 * v + d by show valN s a k * 16 + iX (byt s (a + k))=_;rw [HV.o,HX.o,HD.o];omega);clear HST HC;go_wp2_with fail;refine (HH.o _).mono ?_;rintro e w' ⟨rfl,rfl⟩;rw [HD.o];go_wp2_with fail;refine (HH.o _).mono ?_;rintro e w' ⟨rfl,rfl⟩;rw [HD.o];go_wp2
    go_round
    case rel=>exact ⟨k + 1,by omega,by go_num,by rw [HV1.o],HA1⟩
    case measure=>simp [intOf];omega
   ·
    have hst:hexN s a 6=k:=by
     by_cases h4:k=6
     · subst h4;exact HA.o
     · have hst:=zZ HA.o (by rw [HX.o,HD.o];omega) (6 - k);rw [show k + (6 - k)=6 by omega] at hst;exact hst
    have HO:=aH (HF.o k hst);clear HF hst HA;have e1:decide ((s.size:Int)<=(a:Int) + (k:Int))=false:=aF (by omega);by_cases g0:0 < k
    ·
     have e0:((a:Int) + (k:Int) == (a:Int))=false:=aN.2 (by omega);by_cases g1:x=125
     ·
      subst g1;have HO2:=aH (show o=if fG v=true then some (encS v,a + k + 1) else none by rw [HO.o,HST.o,HV.o];simp [g0]);clear HO HST HV;by_cases g2:¬ (k:Int) < 6
      ·
       go_wp2_with fail;refine (HC.o _).mono ?_;rintro e w1 ⟨rfl,hb1⟩;go_wp2
       go_ret3
       exact ⟨BV HO2.o rfl (by omega),hb1⟩
      ·
       have g3:(k:Int) < 6:=(by omega);have g4:d < 0:=(by omega);clear h1 g2;go_wp2_with fail;refine (HH.o _).mono ?_;rintro e w1 ⟨rfl,rfl⟩;rw [HD.o];go_wp2_with fail;refine (HC.o _).mono ?_;rintro e w1 ⟨rfl,hb1⟩;go_wp2
       go_ret3
       exact ⟨BV HO2.o rfl (by omega),hb1⟩
     ·
      have HO2:=aH (show o=none by rw [HO.o,HST.o];simp [g1]);have g1':(x != 125)=true:=(by simp [g1]);clear HO HST HV HC g1;by_cases g2:¬ (k:Int) < 6
      ·
       go_wp2
       go_ret3
       exact ⟨jJ HO2.o _ _,Below.refl _ _⟩
      ·
       have g3:(k:Int) < 6:=(by omega);have g4:d < 0:=(by omega);clear h1 g2;go_wp2_with fail;refine (HH.o _).mono ?_;rintro e w1 ⟨rfl,rfl⟩;rw [HD.o];go_wp2
       go_ret3
       exact ⟨jJ HO2.o _ _,Below.refl _ _⟩
    ·
     have e0:((a:Int) + (k:Int) == (a:Int))=true:=beq_iff_eq.2 (by omega);have HO2:=aH (show o=none by rw [HO.o];simp [g0]);have g3:(k:Int) < 6:=(by omega);have g4:d < 0:=(by omega);clear HO HST HV HC g0 h1;go_wp2_with fail;refine (HH.o _).mono ?_;rintro e w1 ⟨rfl,rfl⟩;rw [HD.o];go_wp2
     go_ret3
     exact ⟨jJ HO2.o _ _,Below.refl _ _⟩
  ·
   have hst:hexN s a 6=k:=by
    by_cases h4:k=6
    · subst h4;exact HA.o
    · have hst:=zZ HA.o (by omega) (6 - k);rw [show k + (6 - k)=6 by omega] at hst;exact hst
   have HO:=aH (show o=none by rw [HF.o k hst,jR h2];simp);clear HF hst HA HV;have e1:decide ((s.size:Int)<=(a:Int) + (k:Int))=true:=aT (by omega);obtain ⟨b0,e0⟩:∃ b0,((a:Int) + (k:Int) == (a:Int))=b0:=⟨_,rfl⟩
   cases b0
   all_goals
    go_wp2
    go_ret3
    exact ⟨jJ HO.o _ _,Below.refl _ _⟩
def escO (s:ByteArray) (k:Nat) (sp:ByteArray):Option (ByteArray × Nat) :=
 if k < s.size then
  if byt s k=110 then some (⟨#[10]⟩,k + 1) else if byt s k=116 then some (⟨#[9]⟩,k + 1)
  else if (byt s k == 92 || isSp sp (byt s k))=true then some (strOfNums [byt s k],k + 1)
  else if byt s k=120 then (if hexN s (k + 1) 2=2 then some (strOfNums [valN s (k + 1) 2],k + 3) else none)
  else if byt s k=117/\bG s ((k + 1:Nat):Int) 123=true then signO s (k + 2) else none
 else none
theorem kW {s:ByteArray} {k:Nat} {sp:ByteArray} {c:Int} (hk:k < s.size) (hc:byt s k=c):escO s k sp =
  if c=110 then some (⟨#[10]⟩,k + 1) else if c=116 then some (⟨#[9]⟩,k + 1)
  else if (c == 92 || isSp sp c)=true then some (strOfNums [c],k + 1)
  else if c=120 then (if hexN s (k + 1) 2=2 then some (strOfNums [valN s (k + 1) 2],k + 3) else none)
  else if c=117/\bG s ((k + 1:Nat):Int) 123=true then signO s (k + 2) else none:=by
 unfold escO;rw [if_pos hk,hc]
def readO (s:ByteArray) (k:Nat) (sp:ByteArray):Option (ByteArray × Nat) :=
 if k < s.size then (if jF sp (byt s k)=true then some (strOfNums [byt s k],k + 1) else if byt s k=92 then escO s (k + 1) sp else none) else none
theorem jB {s:ByteArray} {k:Nat} {sp:ByteArray} {c:Int} (hk:k < s.size) (hc:byt s k=c):readO s k sp =
  if jF sp c=true then some (strOfNums [c],k + 1) else if c=92 then escO s (k + 1) sp else none:=by
 unfold readO;rw [if_pos hk,hc]
theorem qN {s:ByteArray} {k:Nat} {sp:ByteArray} (h:¬ k < s.size):escO s k sp=none:=by unfold escO;rw [if_neg h]
theorem mF {s:ByteArray} {k:Nat} {sp:ByteArray} (h:¬ k < s.size):readO s k sp=none:=by unfold readO;rw [if_neg h]
end Go.Proofs.YthkdnehgamefiaaGreat
