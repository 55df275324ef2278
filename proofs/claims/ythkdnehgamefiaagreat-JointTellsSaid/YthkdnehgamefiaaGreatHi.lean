import Derived.Test.YthkdnehgamefiaaGreatHh
namespace Go.Proofs.YthkdnehgamefiaaGreat
set_option linter.unusedVariables false
set_option maxHeartbeats 6400000
open Go.RowKit
theorem fP {s:ByteArray} {k:Nat} {c:Int}:bG s (k:Int) c=true ↔ k < s.size/\byt s k=c:=by
 by_cases h:k < s.size
 · rw [gG h,beq_iff_eq];exact ⟨fun g=>⟨h,g⟩,fun g=>g.2⟩
 · rw [jR h];exact ⟨fun g=>(by cases g),fun g=>absurd g.1 h⟩
def sglO (s:ByteArray) (k:Nat):Option (Int × Nat) :=
 match readO s k spC with
 | none=>none
 | some (u,m)=>if u.size=1 then some (byt u 0,m) else none
def Ku:Option (Int × Nat)->Value
 | none=>.tuple #[.int .u8 0,.int .i64 0,.bool false]
 | some (c,m)=>.tuple #[.int .u8 c,.int .i64 (m:Int),.bool true]
theorem rY {s:ByteArray} {k:Nat} (h:readO s k spC=none):sglO s k=none:=by unfold sglO;rw [h]
theorem uR {s:ByteArray} {k m:Nat} {u:ByteArray} (h:readO s k spC=some (u,m)):sglO s k=if u.size=1 then some (byt u 0,m) else none:=by unfold sglO;rw [h]
theorem Dm {s:ByteArray} {k m:Nat} {c:Int} (h:sglO s k=some (c,m)):k < s.size/\k < m/\m<=k + 10/\0<=c/\c<=255:=by
 cases hq:readO s k spC with
 | none=>rw [rY hq] at h;cases h
 | some p =>
  obtain ⟨u,m'⟩:=p;rw [uR hq] at h;split at h
  · injection h with h;injection h with h1 h2;subst h1 h2;have:=tK hq;exact ⟨this.1,this.2.1,this.2.2.1,tX u 0⟩
  · cases h
theorem EQ (s:ByteArray) (hs:s.size<=1000000) (k:Nat) (hk:k<=2000000) (w:World) :
  Calls Tryz.prog 152 #[.string s,.int .i64 (k:Int)] w fun e w'=>e=.returned (Ku (sglO s k))/\Below w.heap.size w w':=by
 have HR:=aH (fun W=>A5v s hs k hk spC (by decide) (fun c h0 h1 h=>Zi h0 h1 h) W)
 cases hq:readO s k spC with
 | none =>
  have HE:=aH (show Ku (sglO s k)=.tuple #[.int .u8 0,.int .i64 0,.bool false] by rw [rY hq];rfl);rw [hq] at HR;clear hq;go_enter Tryz.func152,Tryz.ntmps152;go_wp2_with fail;refine (HR.o _).mono ?_;rintro e w3 ⟨he,hb3⟩;obtain ⟨t,n,rfl⟩:=Lu he;clear he;go_wp2
  go_ret3
  exact ⟨by rw [HE.o];rfl,hb3⟩
 | some p =>
  obtain ⟨u,m⟩:=p;have hm:=(tK hq).2.2.1;have hE:=uR hq;rw [hq] at HR;clear hq;by_cases g:u.size=1
  ·
   obtain ⟨x,hx⟩:∃ x:Int,((u[0]'(by omega)).toNat:Int)=x:=⟨_,rfl⟩;have HE:=aH (show Ku (sglO s k)=.tuple #[.int .u8 x,.int .i64 (m:Int),.bool true] by rw [hE,if_pos g,dI (by omega),hx];rfl);clear hE;go_enter Tryz.func152,Tryz.ntmps152;go_wp2_with fail;refine (HR.o _).mono ?_;rintro e w3 ⟨he,hb3⟩;obtain rfl:=wY he;clear he;have g':(u.size:Int)=1:=(by omega);go_wp2
   go_ret3
   exact ⟨by rw [HE.o];rfl,hb3⟩
  ·
   have HE:=aH (show Ku (sglO s k)=.tuple #[.int .u8 0,.int .i64 0,.bool false] by rw [hE,if_neg g];rfl);have g':((u.size:Int) == 1)=false:=(by rw [aN];omega);have g'':((u.size:Int) != 1)=true:=(by simp;omega);clear hE;go_enter Tryz.func152,Tryz.ntmps152;go_wp2_with fail;refine (HR.o _).mono ?_;rintro e w3 ⟨he,hb3⟩;obtain rfl:=wY he;clear he;go_wp2
   go_ret3
   exact ⟨by rw [HE.o];rfl,hb3⟩
def rowO (s:ByteArray) (k:Nat):Option ((Nat × Nat) × Nat) :=
 match sglO s k with
 | none=>none
 | some (lo,m) =>
  if bG s (m:Int) 45=true then
   match sglO s (m + 1) with
   | none=>none
   | some (hi,m')=>if hi < lo then none else some ((lo.toNat,hi.toNat),m')
  else some ((lo.toNat,lo.toNat),m)
theorem rV {s:ByteArray} {k:Nat} (h:sglO s k=none):rowO s k=none:=by unfold rowO;rw [h]
theorem yL {s:ByteArray} {k m:Nat} {lo:Int} (h:sglO s k=some (lo,m)) (hd:bG s (m:Int) 45=false):rowO s k=some ((lo.toNat,lo.toNat),m):=by unfold rowO;rw [h];show (if _ then _ else _)=_;rw [if_neg (by rw [hd];decide)]
theorem yM {s:ByteArray} {k m:Nat} {lo:Int} (h:sglO s k=some (lo,m)) (hd:bG s (m:Int) 45=true):rowO s k=match sglO s (m + 1) with
   | none=>none
   | some (hi,m')=>if hi < lo then none else some ((lo.toNat,hi.toNat),m'):=by
 unfold rowO;rw [h];show (if _ then _ else _)=_;rw [if_pos hd]
theorem xW {s:ByteArray} {k m lo hi:Nat} (h:rowO s k=some ((lo,hi),m)):k < s.size/\k < m/\m<=k + 21/\lo < 256/\hi < 256:=by
 cases hq:sglO s k with
 | none=>rw [rV hq] at h;cases h
 | some p =>
  obtain ⟨c,n⟩:=p;obtain ⟨b1,b2,b3,b4,b5⟩:=Dm hq
  cases hd:bG s (n:Int) 45 with
  | false =>
   rw [yL hq hd] at h;injection h with h;injection h with h1 h2;injection h1 with h3 h4;omega
  | true =>
   rw [yM hq hd] at h
   cases hr:sglO s (n + 1) with
   | none=>rw [hr] at h;cases h
   | some p =>
    obtain ⟨c',n'⟩:=p;obtain ⟨d1,d2,d3,d4,d5⟩:=Dm hr;rw [hr] at h;simp only at h;split at h
    · cases h
    · injection h with h;injection h with h1 h2;injection h1 with h3 h4;omega
theorem LC {s:ByteArray} {k:Nat} (h:bG s (k:Int) 93=true):rowO s k=none:=by obtain ⟨h1,h2⟩:=fP.1 h;apply rV;apply rY;rw [jB h1 h2,if_neg (by decide),if_neg (by decide)]
abbrev bO:=Nat × Nat × Nat × Nat
def orR (x:bO) (lo hi:Nat):bO:=(x.1 ||| bQ 0 lo (hi + 1),x.2.1 ||| bQ 1 lo (hi + 1),x.2.2.1 ||| bQ 2 lo (hi + 1),x.2.2.2 ||| bQ 3 lo (hi + 1))
def rwsF (s:ByteArray):Nat->Nat->bO->Option (bO × Nat)
 | 0,_,_=>none
 | f + 1,k,x =>
  match rowO s k with
  | none=>none
  | some ((lo,hi),m)=>if bG s (m:Int) 93=true then some (orR x lo hi,m) else rwsF s f m (orR x lo hi)
theorem xX {s:ByteArray} {f k:Nat} {x:bO} (h:rowO s k=none):rwsF s f k x=none:=by
 cases f
 · rfl
 · unfold rwsF;rw [h]
theorem Ic {s:ByteArray} {f k m lo hi:Nat} {x:bO} (hf:s.size < f + k) (h:rowO s k=some ((lo,hi),m)) :
  rwsF s f k x=if bG s (m:Int) 93=true then some (orR x lo hi,m) else rwsF s (f - 1) m (orR x lo hi):=by
 have hk:=(xW h).1;obtain ⟨g,rfl⟩:∃ g,f=g + 1:=⟨f - 1,by omega⟩;rw [rwsF.eq_2,h];rfl
def At (U:ByteArray) (k:Nat) (l:List UInt8):Prop:=∃ pre post,U.data.toList=pre ++ (l ++ post)/\pre.length=k
theorem At.app {U:ByteArray} {k:Nat} {l r:List UInt8} (h:At U k (l ++ r)):At U k l/\At U (k + l.length) r:=by obtain ⟨pre,post,h,hk⟩:=h;refine ⟨⟨pre,r ++ post,by rw [h,List.append_assoc],hk⟩,⟨pre ++ l,post,by rw [h];simp,by rw [List.length_append,hk]⟩⟩
theorem At.cons {U:ByteArray} {k:Nat} {x:UInt8} {l:List UInt8} (h:At U k (x :: l)):k < U.size/\byt U k=(x.toNat:Int)/\At U (k + 1) l:=by
 obtain ⟨pre,post,h,hk⟩:=h;refine ⟨?_,?_,⟨pre ++ [x],post,by rw [h];simp,by rw [List.length_append,hk];rfl⟩⟩
 ·
  have h2:U.data.toList.length=U.size:=by simp
  rw [<- h2,h,List.length_append,List.length_append,List.length_cons];omega
 · unfold byt;rw [h,List.getD_eq_getElem?_getD,List.getElem?_append_right (by omega)];simp [hk]
def nb (c:Int):UInt8:=UInt8.ofNat c.toNat
theorem At.left {U:ByteArray} {k:Nat} {l r:List UInt8} (h:At U k (l ++ r)):At U k l:=h.app.1
theorem MS {s:ByteArray}:∀ f k out u m,txtF s f k out=some (u,m)->k < m/\m<=s.size/\byt s (m - 1)=34/\1<=u.size/\u.size<=40
 | 0,k,out,u,m=>fun h=>by cases h
 | f + 1,k,out,u,m=>fun h=>by
  rw [txtF.eq_2] at h;split at h
  ·
   split at h
   ·
    split at h
    · cases h
    · rename_i g1 g2 g3;injection h with h;injection h with h3 h4;subst h3 h4;exact ⟨by omega,by omega,by rw [Nat.add_sub_cancel];exact g2,by omega,by omega⟩
   ·
    cases hr:readO s k spT with
    | none=>rw [hr] at h;cases h
    | some p =>
     obtain ⟨v,n⟩:=p;rw [hr] at h;have:=tK hr;have h2:=MS f n _ u m h;exact ⟨by omega,h2.2⟩
  · cases h
theorem MU {s:ByteArray} {i:Nat} {u:ByteArray} {m:Nat} (h:txtO s (i:Int)=some (u,m)):i < m/\m<=s.size/\byt s (m - 1)=34/\1<=u.size/\u.size<=40:=by
 unfold txtO at h;split at h
 · have:=MS _ _ _ _ _ h;rw [Int.toNat_natCast] at this;exact ⟨by omega,this.2⟩
 · cases h
theorem four {x:Nat} (hx:x < 256):x / 64=0\/x / 64=1\/x / 64=2\/x / 64=3:=by omega
def fits (x:bO):Prop:=x.1 < P64/\x.2.1 < P64/\x.2.2.1 < P64/\x.2.2.2 < P64
theorem AA {a b:Nat} (ha:a < P64) (hb:b < P64):a ||| b < P64:=Nat.or_lt_two_pow (n:=64) ha hb
theorem qU {x:bO} (h:fits x) (lo hi:Nat):fits (orR x lo hi) :=
 ⟨AA h.1 (eZ ..),AA h.2.1 (eZ ..),AA h.2.2.1 (eZ ..),AA h.2.2.2 (eZ ..)⟩
abbrev set0:bO:=(0,0,0,0)
def B9v (x:bO):bO:=(dU x.1,dU x.2.1,dU x.2.2.1,dU x.2.2.2)
def NJ (o:Bool) (x:bO):bO:=if o=true then B9v x else x
theorem A7H {x:bO} (h:fits x) (o:Bool):fits (NJ o x):=by
 cases o
 · exact h
 · exact ⟨iV _,iV _,iV _,iV _⟩
theorem Af {s:ByteArray}:∀ f k x y m,fits x->rwsF s f k x=some (y,m)->fits y/\k < m/\m < s.size/\byt s m=93
 | 0,k,x,y,m=>fun hx h=>by cases h
 | f + 1,k,x,y,m=>fun hx h=>by
  rw [rwsF.eq_2] at h
  cases hr:rowO s k with
  | none=>rw [hr] at h;cases h
  | some p =>
   obtain ⟨⟨lo,hi⟩,n⟩:=p;rw [hr] at h;simp only at h;have hb:=xW hr;split at h
   · rename_i g;injection h with h;injection h with h1 h2;subst h1 h2;have:=fP.1 g;exact ⟨qU hx lo hi,by omega,this.1,this.2⟩
   · have:=Af f n _ y m (qU hx lo hi) h;exact ⟨this.1,by omega,this.2.2⟩
def FT (o:Bool):Option (bO × Nat)->Option (bO × Nat)
 | none=>none
 | some (x,m)=>if NJ o x=set0 then none else some (NJ o x,m + 1)
def clsO (s:ByteArray) (i:Int):Option (bO × Nat) :=
 if bG s i 91=true then FT (bG s (i + 1) 94) (rwsF s (s.size + 1) (i.toNat + 1 + (if bG s (i + 1) 94=true then 1 else 0)) set0) else none
def Sw:Option (bO × Nat)->Value
 | none=>.tuple #[.agg #[.int .u64 0,.int .u64 0,.int .u64 0,.int .u64 0],.int .i64 0,.bool false]
 | some ((a,b,c,d),m)=>.tuple #[.agg #[.int .u64 (a:Int),.int .u64 (b:Int),.int .u64 (c:Int),.int .u64 (d:Int)],.int .i64 (m:Int),.bool true]
theorem nD:fits set0:=⟨by decide,by decide,by decide,by decide⟩
theorem Eb {s:ByteArray} {i:Nat} {x:bO} {m:Nat} (h:clsO s (i:Int)=some (x,m)):i < m/\m<=s.size/\byt s (m - 1)=93/\fits x/\x ≠ set0:=by
 unfold clsO at h;split at h
 ·
  generalize bG s ((i:Int) + 1) 94=o at h
  cases hr:rwsF s (s.size + 1) ((i:Int).toNat + 1 + (if o=true then 1 else 0)) set0 with
  | none=>rw [hr] at h;cases h
  | some p =>
   obtain ⟨y,n⟩:=p;rw [hr] at h;have:=Af _ _ _ _ _ nD hr;rw [Int.toNat_natCast] at this;simp only [FT] at h;split at h
   · cases h
   · rename_i g;injection h with h;injection h with h1 h2;subst h1 h2;exact ⟨by omega,by omega,by rw [Nat.add_sub_cancel];exact this.2.2.2,A7H this.1 o,g⟩
 · cases h
def Cs (c:Int):Bool:=(decide (97<=c) && decide (c<=122)) || (decide (65<=c) && decide (c<=90))
def vY (c:Int):Bool:=Cs c || (decide (48<=c) && decide (c<=57)) || c == 95
def runB (P:Int->Bool) (s:ByteArray):Nat->Nat->Nat
 | 0,_=>0
 | f + 1,k=>if k < s.size/\P (byt s k)=true then 1 + runB P s f (k + 1) else 0
theorem Vw {P:Int->Bool} {s:ByteArray}:∀ (n f k:Nat),n<=f->(∀ j,j < n->k + j < s.size/\P (byt s (k + j))=true)->(n < f->¬ (k + n < s.size/\P (byt s (k + n))=true))->runB P s f k=n
 | 0,f,k,h1,h2,h3=>by
  cases f with
  | zero=>rfl
  | succ f=>unfold runB;rw [if_neg (show ¬ (k < s.size/\P (byt s k)=true) from h3 (by omega))]
 | n + 1,f,k,h1,h2,h3=>by
  obtain ⟨g,rfl⟩:∃ g,f=g + 1:=⟨f - 1,by omega⟩;unfold runB
  rw [if_pos (show k < s.size/\P (byt s k)=true from h2 0 (by omega)),Vw n g (k + 1) (by omega) (fun j hj=>by have:=h2 (j + 1) (by omega);rw [show k + 1 + j=k + (j + 1) by omega];exact this)
   (fun hn=>by have:=h3 (by omega);rw [show k + 1 + n=k + (n + 1) by omega];exact this)]
  omega
theorem LV {P:Int->Bool} {s:ByteArray}:∀ (f k j:Nat),j < runB P s f k->k + j < s.size/\P (byt s (k + j))=true
 | 0,k,j,h=>by unfold runB at h;omega
 | f + 1,k,j,h=>by
  unfold runB at h;split at h
  ·
   rename_i g
   cases j with
   | zero=>exact g
   | succ j=>have:=LV (P:=P) (s:=s) f (k + 1) j (by omega);rw [show k + (j + 1)=k + 1 + j by omega];exact this
  · omega
def nmO (s:ByteArray) (k:Nat):Nat:=runB vY s s.size k
def ntO (s:ByteArray) (k:Nat):Nat:=runB (fun c=>c != 10) s s.size k
def yQ (c:Int):Bool:=c == 32 || c == 9 || c == 10
def skF (s:ByteArray):Nat->Nat->Nat
 | 0,k=>k
 | f + 1,k=>if k < s.size then (if yQ (byt s k)=true then skF s f (k + 1) else if byt s k=35 then skF s f (k + ntO s k) else k) else k
def skO (s:ByteArray) (k:Nat):Nat:=skF s (s.size + 1) k
theorem oP {s:ByteArray} {f k:Nat} (h:¬ k < s.size):skF s f k=k:=by
 cases f
 · rfl
 · unfold skF;rw [if_neg h]
theorem rZ {s:ByteArray} {f k:Nat} (hf:s.size < f + k) (hk:k < s.size) (h:yQ (byt s k)=true):skF s f k=skF s (f - 1) (k + 1):=by obtain ⟨g,rfl⟩:∃ g,f=g + 1:=⟨f - 1,by omega⟩;rw [skF.eq_2,if_pos hk,if_pos h];rfl
theorem Wn {s:ByteArray} {f k:Nat} (hf:s.size < f + k) (hk:k < s.size) (h:byt s k=35):skF s f k=skF s (f - 1) (k + ntO s k):=by obtain ⟨g,rfl⟩:∃ g,f=g + 1:=⟨f - 1,by omega⟩;rw [skF.eq_2,if_pos hk,if_neg (by rw [h];decide),if_pos h];rfl
theorem Gb {s:ByteArray} {f k:Nat} (h:yQ (byt s k)=false) (h2:byt s k ≠ 35):skF s f k=k:=by
 cases f
 · rfl
 ·
  unfold skF;split
  · rw [if_neg (by rw [h];decide)];try rw [if_neg h2]
  · rfl
theorem Us {s:ByteArray} {k:Nat} (hk:k < s.size) (h:byt s k=35):1<=ntO s k:=by unfold ntO;obtain ⟨g,hg⟩:∃ g,s.size=g + 1:=⟨s.size - 1,by omega⟩;rw [show runB (fun c=>c != 10) s s.size k=runB (fun c=>c != 10) s (g + 1) k by rw [hg]];unfold runB;rw [if_pos ⟨hk,by rw [h];rfl⟩];omega
theorem A3i {s:ByteArray} {k:Nat} (hk:k<=s.size):k + nmO s k<=s.size:=by
 unfold nmO;by_cases h:runB vY s s.size k=0
 · omega
 · have:=(LV (P:=vY) (s:=s) s.size k (runB vY s s.size k - 1) (by omega)).1;omega
def sgB (c:Int):Bool:=c == 59 || c == 61 || c == 47 || c == 38 || c == 33 || c == 126 || c == 42 || c == 43 || c == 63 || c == 46 || c == 40 || c == 41
def sgO (s:ByteArray) (k:Nat):Nat :=
 if byt s k=58 then (if bG s ((k + 1:Nat):Int) 58=true then 2 else 1) else if sgB (byt s k)=true then 1 else 0
theorem A1l (c:Int) (w:World):Calls Tryz.prog 107 #[.int .u8 c] w fun e w'=>e=.returned (.bool (Cs c))/\w'=w:=by
 have HS:=aH (show Cs c=((decide (97<=c) && decide (c<=122)) || (decide (65<=c) && decide (c<=90))) from rfl);by_cases g0:97<=c <;> by_cases g1:c<=122 <;> by_cases g2:65<=c <;> by_cases g3:c<=90
 all_goals first
  | (exfalso;omega)
  | (go_enter Tryz.func107,Tryz.ntmps107
     go_wp2;go_ret
     exact ⟨aJ (by rw [HS.o];simp <;> omega),rfl⟩)
theorem B4t (c:Int) (w:World):Calls Tryz.prog 108 #[.int .u8 c] w fun e w'=>e=.returned (.bool (vY c))/\w'=w:=by
 have HS:=aH (show vY c=(Cs c || (decide (48<=c) && decide (c<=57)) || c == 95) from rfl);have HL:=aH (fun W=>A1l c W);obtain ⟨b,hb⟩:∃ b,Cs c=b:=⟨_,rfl⟩;rw [hb] at HS HL;clear hb;obtain ⟨q,hq⟩:∃ q,(c == 95)=q:=⟨_,rfl⟩;have HQ:=aH hq;by_cases g0:48<=c <;> by_cases g1:c<=57 <;> cases b <;> cases q
 all_goals first
  | (exfalso;omega)
  | (go_enter Tryz.func108,Tryz.ntmps108
     go_wp2_with fail;refine (HL.o _).mono ?_;rintro e w1 ⟨rfl,rfl⟩;go_wp2;go_ret
     exact ⟨aJ (by rw [HS.o,HQ.o];simp <;> omega),rfl⟩)
theorem A5q {s:ByteArray} {p n:Nat} (hp:p<=s.size) (hn:p + n<=s.size) (h:∀ j,j < n->byt s (p + j) ≠ 10) (h2:p + n < s.size->byt s (p + n)=10):ntO s p=n:=by refine Vw n s.size p (by omega) (fun j hj=>⟨by omega,by simp [h j hj]⟩) (fun hlt=>?_);rintro ⟨g1,g2⟩;rw [h2 g1] at g2;revert g2;decide
set_option maxRecDepth 100000 in
theorem TH (s:ByteArray) (hs:s.size<=1000000) (a:Nat) (ha:(a:Int)<=9223372036854775807) (w:World) :
  Calls Tryz.prog 106 #[.string s,.int .i64 (a:Int)] w fun e w'=>e=.returned (.int .i64 (skO s a:Int))/\w'=w:=by
 have HT0:=aH (show skF s (s.size + 1) a=skO s a/\s.size < s.size + 1 + a from ⟨rfl,by omega⟩);obtain ⟨o,ho⟩:∃ o,skO s a=o:=⟨_,rfl⟩;rw [ho] at HT0 ⊢;clear ho;go_enter Tryz.func106,Tryz.ntmps106;go_wp2
 go_loop [1] (fun i=>∃ k f:Nat,i=.int .i64 (k:Int)/\(k:Int)<=9223372036854775807/\aQ (skF s f k=o/\s.size < f + k)) (fun i=>s.size - (intOf i).toNat)
 case atStart=>exact ⟨a,s.size + 1,rfl,ha,HT0⟩
 case round =>
  obtain ⟨k,f,rfl,hk,HT⟩:=hrel;by_cases hlt:(k:Int) < s.size
  ·
   have hk1:k < s.size:=(by omega);obtain ⟨c,hc⟩:∃ c:Int,(s[k].toNat:Int)=c:=⟨_,rfl⟩;have hbc:byt s k=c:=(by rw [dI hk1,hc]);by_cases h32:c=32
   ·
    subst h32;have HT2:=aH (show skF s (f - 1) (k + 1)=o/\s.size < (f - 1) + (k + 1) from ⟨by rw [<- HT.o.1];exact (rZ HT.o.2 hk1 (by rw [hbc];rfl)).symm,by have:=HT.o.2;omega⟩);clear HT hbc;go_wp2
    go_round
    case rel=>exact ⟨k + 1,f - 1,by go_num,by omega,HT2⟩
    case measure=>simp [intOf];omega
   have e32:(c == 32)=false:=aN.2 h32;by_cases h9:c=9
   ·
    subst h9;have HT2:=aH (show skF s (f - 1) (k + 1)=o/\s.size < (f - 1) + (k + 1) from ⟨by rw [<- HT.o.1];exact (rZ HT.o.2 hk1 (by rw [hbc];rfl)).symm,by have:=HT.o.2;omega⟩);clear HT hbc;go_wp2
    go_round
    case rel=>exact ⟨k + 1,f - 1,by go_num,by omega,HT2⟩
    case measure=>simp [intOf];omega
   have e9:(c == 9)=false:=aN.2 h9;by_cases h10:c=10
   ·
    subst h10;have HT2:=aH (show skF s (f - 1) (k + 1)=o/\s.size < (f - 1) + (k + 1) from ⟨by rw [<- HT.o.1];exact (rZ HT.o.2 hk1 (by rw [hbc];rfl)).symm,by have:=HT.o.2;omega⟩);clear HT hbc;go_wp2
    go_round
    case rel=>exact ⟨k + 1,f - 1,by go_num,by omega,HT2⟩
    case measure=>simp [intOf];omega
   have e10:(c == 10)=false:=aN.2 h10;by_cases h35:c=35
   ·
    subst h35;have hn1:=Us hk1 hbc;have HT2:=aH (show skF s (f - 1) (k + ntO s k)=o/\s.size < (f - 1) + (k + ntO s k) from ⟨by rw [<- HT.o.1];exact (Wn HT.o.2 hk1 hbc).symm,by have:=HT.o.2;omega⟩);clear HT;go_wp2
    go_loop [1] (fun i=>∃ j:Nat,i=.int .i64 ((k + j:Nat):Int)/\k + j<=s.size/\aQ (∀ t,t < j->byt s (k + t) ≠ 10)) (fun i=>s.size - (intOf i).toNat)
    case atStart=>exact ⟨0,rfl,by omega,aH (fun t h=>by omega)⟩
    case round =>
     obtain ⟨j,rfl,hj,HA⟩:=hrel;by_cases hlt2:((k + j:Nat):Int) < s.size
     ·
      have hj1:k + j < s.size:=(by omega);obtain ⟨d,hd⟩:∃ d:Int,(s[k + j].toNat:Int)=d:=⟨_,rfl⟩;have hbd:byt s (k + j)=d:=(by rw [dI hj1,hd]);by_cases h10:d=10
      ·
       subst h10;have HN:=aH (show ntO s k=j from A5q (by omega) hj HA.o (fun _=>hbd));clear hbd HA;go_wp2
       go_round
       case rel=>exact ⟨k + j,f - 1,rfl,by omega,by rw [<- HN.o];exact HT2⟩
       case measure=>have:=HN.o;simp [intOf];omega
      ·
       have e10':(d != 10)=true:=(by simp [h10]);have e10'':(d == 10)=false:=aN.2 h10
       have HA1:aQ (∀ t,t < j + 1->byt s (k + t) ≠ 10):=aH (fun t ht=>by
        by_cases e:t=j
        · rw [e,hbd];exact h10
        · exact HA.o t (by omega))
       clear hbd HA;go_wp2
       go_round
       case rel=>exact ⟨j + 1,by go_num,by omega,HA1⟩
       case measure=>simp [intOf];omega
     ·
      have HN:=aH (show ntO s k=j from A5q (by omega) hj HA.o (fun h=>by omega));have hlt3:decide (((k + j:Nat):Int) < (s.size:Int))=false:=aF hlt2;clear HA;go_wp2
      go_round
      case rel=>exact ⟨k + j,f - 1,rfl,by omega,by rw [<- HN.o];exact HT2⟩
      case measure=>have:=HN.o;simp [intOf];omega
   have e35:(c == 35)=false:=aN.2 h35;have HE:=aH (show o=k by rw [<- HT.o.1];exact Gb (by rw [hbc];unfold yQ;rw [e32,e9,e10];rfl) (by rw [hbc];exact h35));clear HT hbc;go_wp2;go_ret;exact ⟨eF (by rw [HE.o]),rfl⟩
  · have HE:=aH (show o=k by rw [<- HT.o.1];exact oP (by omega));clear HT;go_wp2;go_ret;exact ⟨eF (by rw [HE.o]),rfl⟩
theorem Sm {s:ByteArray} {p:Nat} (hp:p < s.size):∃ x r,s.data.toList.drop p=x :: r/\(x.toNat:Int)=byt s p/\r=s.data.toList.drop (p + 1):=by
 have h':p < s.data.toList.length:=by simpa using hp
 refine ⟨s.data.toList[p],s.data.toList.drop (p + 1),List.drop_eq_getElem_cons h',?_,rfl⟩;unfold byt;rw [List.getD_eq_getElem?_getD,aG h'];rfl
theorem A6i {x:UInt8} {n:Nat} (hn:n < 256) (h:(x.toNat:Int)=n):x=UInt8.ofNat n:=by apply UInt8.toNat.inj;rw [UInt8.toNat_ofNat'];omega
theorem TP {s:ByteArray} {p:Nat} (h:byt s p=58):sgO s p=if bG s ((p + 1:Nat):Int) 58=true then 2 else 1:=by unfold sgO;rw [if_pos h]
theorem fC {s:ByteArray} {p:Nat} (h:byt s p ≠ 58) (h2:sgB (byt s p)=true):sgO s p=1:=by unfold sgO;rw [if_neg h,if_pos h2]
theorem A4g {s:ByteArray} {p:Nat} (h:byt s p ≠ 58) (h2:sgB (byt s p)=false):sgO s p=0:=by unfold sgO;rw [if_neg h,h2];rfl
theorem MC {s:ByteArray} {p:Nat} (h:p < s.size):p + sgO s p<=s.size:=by
 unfold sgO;split
 ·
  split
  · rename_i g;have:=(fP.1 g).1;omega
  · omega
 · split <;> omega
theorem A9U {s:ByteArray} {p:Nat} (hp:p + 1 < s.size):(s.extract p (p + 2)).toList=[(58:UInt8),58] ↔ byt s p=58/\byt s (p + 1)=58:=by
 obtain ⟨x,r,e,hx,hr⟩:=Sm (s:=s) (p:=p) (by omega);obtain ⟨y,r2,e2,hy,-⟩:=Sm hp;rw [ByteArray.toList_eq,ByteArray.data_extract];simp only [Array.toList_extract,List.extract_eq_take_drop];rw [e,show p + 2 - p=2 by omega,hr,e2,<- hx,<- hy];simp only [List.take_succ_cons,List.take_zero,List.cons.injEq,and_true];constructor
 · rintro ⟨rfl,rfl⟩;exact ⟨rfl,rfl⟩
 · rintro ⟨h1,h2⟩;exact ⟨A6i (n:=58) (by omega) h1,A6i (n:=58) (by omega) h2⟩
theorem B4K {s:ByteArray} {p:Nat} (hp:p + 1 < s.size) (h:byt s p=58/\byt s (p + 1)=58):s.extract p (p + 2)=(⟨#[58,58]⟩:ByteArray):=by apply kT;have:=(A9U hp).2 h;rw [ByteArray.toList_eq] at this;exact this
theorem FY (s:ByteArray) (p:Nat):s.extract p (p + 0)=(⟨#[]⟩:ByteArray):=by apply kT;rw [ByteArray.data_extract];simp
theorem A4Z (s:ByteArray) (hs:s.size<=1000000) (p:Nat) (hp:p < s.size) (w:World) :
  Calls Tryz.prog 111 #[.string s,.int .i64 (p:Int)] w fun e w'=>e=.returned (.string (s.extract p (p + sgO s p)))/\w'=w:=by
 obtain ⟨c,hc⟩:∃ c:Int,(s[p].toNat:Int)=c:=⟨_,rfl⟩;have hbc:byt s p=c:=by rw [dI hp,hc]
 have hx0:=FY s p;by_cases h58:c=58
 ·
  subst h58;have HE:=aH (TP hbc);by_cases g:(p:Int) + 1 < s.size
  ·
   have g1:p + 1 < s.size:=(by omega);have hcc:=A9U g1;have hct:=B4K g1;have g2:(p:Int) + 2<=s.size:=(by omega);by_cases h2:byt s (p + 1)=58
   · have HT:=aH (hct ⟨hbc,h2⟩);have HB:=aH (show bG s ((p + 1:Nat):Int) 58=true from fP.2 ⟨g1,h2⟩);have e2:((s.extract p (p + 2)).toList == [(58:UInt8),58])=true:=(by rw [beq_iff_eq];exact hcc.2 ⟨hbc,h2⟩);clear hcc hct hbc h2 hx0;go_enter Tryz.func111,Tryz.ntmps111;go_wp2;go_ret;exact ⟨bL (by rw [HE.o,HB.o];exact HT.o.symm),rfl⟩
   · have HB:=aH (show bG s ((p + 1:Nat):Int) 58=false from by rw [gG g1];exact aN.2 h2);have e2:((s.extract p (p + 2)).toList == [(58:UInt8),58])=false:=(by rw [aN];exact fun q=>h2 (hcc.1 q).2);clear hcc hct hbc h2 hx0;go_enter Tryz.func111,Tryz.ntmps111;go_wp2;go_ret;exact ⟨bL (by rw [HE.o,HB.o];rfl),rfl⟩
  · have HB:=aH (show bG s ((p + 1:Nat):Int) 58=false from jR (by omega));have g2:decide ((p:Int) + 1 < (s.size:Int))=false:=aF g;clear hbc hx0;go_enter Tryz.func111,Tryz.ntmps111;go_wp2;go_ret;exact ⟨bL (by rw [HE.o,HB.o];rfl),rfl⟩
 have e58:(c == 58)=false:=aN.2 h58;have hsl:(p:Int) + 1<=s.size:=by omega
 have HX:=aH hx0;have HCC:=aH (fun (g1:p + 1 < s.size)=>(show ((s.extract p (p + 2)).toList == [(58:UInt8),58])=false from by rw [aN];exact fun q=>h58 (by rw [<- hbc];exact ((A9U g1).1 q).1)));clear hx0;by_cases g:(p:Int) + 1 < s.size
 ·
  have e2:=HCC.o (by omega);have g2:(p:Int) + 2<=s.size:=by omega
  clear HCC;by_cases h59:c=59
  · subst h59;have HE:=aH (fC (s:=s) (p:=p) (by rw [hbc];decide) (by rw [hbc];decide));clear hbc;go_enter Tryz.func111,Tryz.ntmps111;go_wp2;go_ret;exact ⟨bL (by rw [HE.o]),rfl⟩
  have e59:(c == 59)=false:=aN.2 h59;by_cases h61:c=61
  · subst h61;have HE:=aH (fC (s:=s) (p:=p) (by rw [hbc];decide) (by rw [hbc];decide));clear hbc;go_enter Tryz.func111,Tryz.ntmps111;go_wp2;go_ret;exact ⟨bL (by rw [HE.o]),rfl⟩
  have e61:(c == 61)=false:=aN.2 h61;by_cases h47:c=47
  · subst h47;have HE:=aH (fC (s:=s) (p:=p) (by rw [hbc];decide) (by rw [hbc];decide));clear hbc;go_enter Tryz.func111,Tryz.ntmps111;go_wp2;go_ret;exact ⟨bL (by rw [HE.o]),rfl⟩
  have e47:(c == 47)=false:=aN.2 h47;by_cases h38:c=38
  · subst h38;have HE:=aH (fC (s:=s) (p:=p) (by rw [hbc];decide) (by rw [hbc];decide));clear hbc;go_enter Tryz.func111,Tryz.ntmps111;go_wp2;go_ret;exact ⟨bL (by rw [HE.o]),rfl⟩
  have e38:(c == 38)=false:=aN.2 h38;by_cases h33:c=33
  · subst h33;have HE:=aH (fC (s:=s) (p:=p) (by rw [hbc];decide) (by rw [hbc];decide));clear hbc;go_enter Tryz.func111,Tryz.ntmps111;go_wp2;go_ret;exact ⟨bL (by rw [HE.o]),rfl⟩
  have e33:(c == 33)=false:=aN.2 h33;by_cases h126:c=126
  · subst h126;have HE:=aH (fC (s:=s) (p:=p) (by rw [hbc];decide) (by rw [hbc];decide));clear hbc;go_enter Tryz.func111,Tryz.ntmps111;go_wp2;go_ret;exact ⟨bL (by rw [HE.o]),rfl⟩
  have e126:(c == 126)=false:=aN.2 h126;by_cases h42:c=42
  · subst h42;have HE:=aH (fC (s:=s) (p:=p) (by rw [hbc];decide) (by rw [hbc];decide));clear hbc;go_enter Tryz.func111,Tryz.ntmps111;go_wp2;go_ret;exact ⟨bL (by rw [HE.o]),rfl⟩
  have e42:(c == 42)=false:=aN.2 h42;by_cases h43:c=43
  · subst h43;have HE:=aH (fC (s:=s) (p:=p) (by rw [hbc];decide) (by rw [hbc];decide));clear hbc;go_enter Tryz.func111,Tryz.ntmps111;go_wp2;go_ret;exact ⟨bL (by rw [HE.o]),rfl⟩
  have e43:(c == 43)=false:=aN.2 h43;by_cases h63:c=63
  · subst h63;have HE:=aH (fC (s:=s) (p:=p) (by rw [hbc];decide) (by rw [hbc];decide));clear hbc;go_enter Tryz.func111,Tryz.ntmps111;go_wp2;go_ret;exact ⟨bL (by rw [HE.o]),rfl⟩
  have e63:(c == 63)=false:=aN.2 h63;by_cases h46:c=46
  · subst h46;have HE:=aH (fC (s:=s) (p:=p) (by rw [hbc];decide) (by rw [hbc];decide));clear hbc;go_enter Tryz.func111,Tryz.ntmps111;go_wp2;go_ret;exact ⟨bL (by rw [HE.o]),rfl⟩
  have e46:(c == 46)=false:=aN.2 h46;by_cases h40:c=40
  · subst h40;have HE:=aH (fC (s:=s) (p:=p) (by rw [hbc];decide) (by rw [hbc];decide));clear hbc;go_enter Tryz.func111,Tryz.ntmps111;go_wp2;go_ret;exact ⟨bL (by rw [HE.o]),rfl⟩
  have e40:(c == 40)=false:=aN.2 h40;by_cases h41:c=41
  · subst h41;have HE:=aH (fC (s:=s) (p:=p) (by rw [hbc];decide) (by rw [hbc];decide));clear hbc;go_enter Tryz.func111,Tryz.ntmps111;go_wp2;go_ret;exact ⟨bL (by rw [HE.o]),rfl⟩
  have e41:(c == 41)=false:=aN.2 h41;have HE:=aH (A4g (s:=s) (p:=p) (by rw [hbc];exact h58) (by rw [hbc];unfold sgB;rw [e59,e61,e47,e38,e33,e126,e42,e43,e63,e46,e40,e41];rfl));clear hbc;go_enter Tryz.func111,Tryz.ntmps111;go_wp2;go_ret;exact ⟨bL (by rw [HE.o];exact HX.o.symm),rfl⟩
 ·
  have g2:decide ((p:Int) + 1 < (s.size:Int))=false:=aF g;clear HCC;by_cases h59:c=59
  · subst h59;have HE:=aH (fC (s:=s) (p:=p) (by rw [hbc];decide) (by rw [hbc];decide));clear hbc;go_enter Tryz.func111,Tryz.ntmps111;go_wp2;go_ret;exact ⟨bL (by rw [HE.o]),rfl⟩
  have e59:(c == 59)=false:=aN.2 h59;by_cases h61:c=61
  · subst h61;have HE:=aH (fC (s:=s) (p:=p) (by rw [hbc];decide) (by rw [hbc];decide));clear hbc;go_enter Tryz.func111,Tryz.ntmps111;go_wp2;go_ret;exact ⟨bL (by rw [HE.o]),rfl⟩
  have e61:(c == 61)=false:=aN.2 h61;by_cases h47:c=47
  · subst h47;have HE:=aH (fC (s:=s) (p:=p) (by rw [hbc];decide) (by rw [hbc];decide));clear hbc;go_enter Tryz.func111,Tryz.ntmps111;go_wp2;go_ret;exact ⟨bL (by rw [HE.o]),rfl⟩
  have e47:(c == 47)=false:=aN.2 h47;by_cases h38:c=38
  · subst h38;have HE:=aH (fC (s:=s) (p:=p) (by rw [hbc];decide) (by rw [hbc];decide));clear hbc;go_enter Tryz.func111,Tryz.ntmps111;go_wp2;go_ret;exact ⟨bL (by rw [HE.o]),rfl⟩
  have e38:(c == 38)=false:=aN.2 h38;by_cases h33:c=33
  · subst h33;have HE:=aH (fC (s:=s) (p:=p) (by rw [hbc];decide) (by rw [hbc];decide));clear hbc;go_enter Tryz.func111,Tryz.ntmps111;go_wp2;go_ret;exact ⟨bL (by rw [HE.o]),rfl⟩
  have e33:(c == 33)=false:=aN.2 h33;by_cases h126:c=126
  · subst h126;have HE:=aH (fC (s:=s) (p:=p) (by rw [hbc];decide) (by rw [hbc];decide));clear hbc;go_enter Tryz.func111,Tryz.ntmps111;go_wp2;go_ret;exact ⟨bL (by rw [HE.o]),rfl⟩
  have e126:(c == 126)=false:=aN.2 h126;by_cases h42:c=42
  · subst h42;have HE:=aH (fC (s:=s) (p:=p) (by rw [hbc];decide) (by rw [hbc];decide));clear hbc;go_enter Tryz.func111,Tryz.ntmps111;go_wp2;go_ret;exact ⟨bL (by rw [HE.o]),rfl⟩
  have e42:(c == 42)=false:=aN.2 h42;by_cases h43:c=43
  · subst h43;have HE:=aH (fC (s:=s) (p:=p) (by rw [hbc];decide) (by rw [hbc];decide));clear hbc;go_enter Tryz.func111,Tryz.ntmps111;go_wp2;go_ret;exact ⟨bL (by rw [HE.o]),rfl⟩
  have e43:(c == 43)=false:=aN.2 h43;by_cases h63:c=63
  · subst h63;have HE:=aH (fC (s:=s) (p:=p) (by rw [hbc];decide) (by rw [hbc];decide));clear hbc;go_enter Tryz.func111,Tryz.ntmps111;go_wp2;go_ret;exact ⟨bL (by rw [HE.o]),rfl⟩
  have e63:(c == 63)=false:=aN.2 h63;by_cases h46:c=46
  · subst h46;have HE:=aH (fC (s:=s) (p:=p) (by rw [hbc];decide) (by rw [hbc];decide));clear hbc;go_enter Tryz.func111,Tryz.ntmps111;go_wp2;go_ret;exact ⟨bL (by rw [HE.o]),rfl⟩
  have e46:(c == 46)=false:=aN.2 h46;by_cases h40:c=40
  · subst h40;have HE:=aH (fC (s:=s) (p:=p) (by rw [hbc];decide) (by rw [hbc];decide));clear hbc;go_enter Tryz.func111,Tryz.ntmps111;go_wp2;go_ret;exact ⟨bL (by rw [HE.o]),rfl⟩
  have e40:(c == 40)=false:=aN.2 h40;by_cases h41:c=41
  · subst h41;have HE:=aH (fC (s:=s) (p:=p) (by rw [hbc];decide) (by rw [hbc];decide));clear hbc;go_enter Tryz.func111,Tryz.ntmps111;go_wp2;go_ret;exact ⟨bL (by rw [HE.o]),rfl⟩
  have e41:(c == 41)=false:=aN.2 h41;have HE:=aH (A4g (s:=s) (p:=p) (by rw [hbc];exact h58) (by rw [hbc];unfold sgB;rw [e59,e61,e47,e38,e33,e126,e42,e43,e63,e46,e40,e41];rfl));clear hbc;go_enter Tryz.func111,Tryz.ntmps111;go_wp2;go_ret;exact ⟨bL (by rw [HE.o];exact HX.o.symm),rfl⟩
end Go.Proofs.YthkdnehgamefiaaGreat
