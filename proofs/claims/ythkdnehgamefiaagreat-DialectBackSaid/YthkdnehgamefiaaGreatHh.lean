import Derived.Test.YthkdnehgamefiaaGreatHg
import Derived.Deep.RegionLaw
namespace Go.Proofs.YthkdnehgamefiaaGreat
set_option linter.unusedVariables false
set_option maxRecDepth 1000000
open Go.RowKit
theorem Ke (sp:ByteArray):jF sp 92=false:=by unfold jF;simp
theorem Lu {e:Ending} (h:Ends none e):∃ t n,e=.returned (.tuple #[.string t,.int .i64 n,.bool false]):=by obtain ⟨t,n,b,rfl,h⟩:=h;obtain rfl:b=false:=h;exact ⟨t,n,rfl⟩
theorem wY {u:ByteArray} {m:Nat} {e:Ending} (h:Ends (some (u,m)) e):e=.returned (.tuple #[.string u,.int .i64 (m:Int),.bool true]):=by obtain ⟨t,n,b,rfl,h⟩:=h;obtain ⟨rfl,rfl,rfl⟩:b=true/\t=u/\n=(m:Int):=h;rfl
theorem B4c (n:Int):(encS n).size<=4:=by
 unfold encS;split
 · rw [strOfNums_size,Jf];split <;> (try split) <;> (try split) <;> omega
 · decide
theorem JJ (c:Int):(strOfNums [c]).size<=4:=by rw [strOfNums_size];simp
theorem A2O {s:ByteArray} {a m:Nat} {u:ByteArray} (h:signO s a=some (u,m)):a < m/\m<=a + 7/\u.size<=4:=by
 unfold signO at h;split at h
 · have:=Gx s a 6;injection h with h;injection h with h1 h2;subst h1 h2;exact ⟨by omega,by omega,B4c _⟩
 · cases h
theorem B4d {s:ByteArray} {k m:Nat} {sp u:ByteArray} (h:escO s k sp=some (u,m)):k < m/\m<=k + 9/\u.size<=4:=by
 by_cases hk:k < s.size
 ·
  rw [kW hk rfl] at h;split at h
  · (injection h with h;injection h with h1 h2;subst h1 h2;exact ⟨by omega,by omega,by decide⟩)
  ·
   split at h
   · (injection h with h;injection h with h1 h2;subst h1 h2;exact ⟨by omega,by omega,by decide⟩)
   ·
    split at h
    · (injection h with h;injection h with h1 h2;subst h1 h2;exact ⟨by omega,by omega,JJ _⟩)
    ·
     split at h
     ·
      split at h
      · (injection h with h;injection h with h1 h2;subst h1 h2;exact ⟨by omega,by omega,JJ _⟩)
      · cases h
     ·
      split at h
      · obtain ⟨r1,r2,r3⟩:=A2O h;exact ⟨by omega,by omega,r3⟩
      · cases h
 · rw [qN hk] at h;cases h
theorem tK {s:ByteArray} {k m:Nat} {sp u:ByteArray} (h:readO s k sp=some (u,m)):k < s.size/\k < m/\m<=k + 10/\u.size<=4:=by
 by_cases hk:k < s.size
 ·
  rw [jB hk rfl] at h;refine ⟨hk,?_⟩;split at h
  · injection h with h;injection h with h1 h2;subst h1 h2;exact ⟨by omega,by omega,JJ _⟩
  ·
   split at h
   · have:=B4d h;exact ⟨by omega,by omega,this.2.2⟩
   · cases h
 · rw [mF hk] at h;cases h
def txtF (s:ByteArray):Nat->Nat->ByteArray->Option (ByteArray × Nat)
 | 0,_,_=>none
 | f + 1,k,out =>
  if k < s.size then
   if byt s k=34 then (if out.size=0\/40 < out.size then none else some (out,k + 1))
   else match readO s k spT with
    | none=>none
    | some (u,m)=>txtF s f m (out ++ u)
  else none
theorem MP {s:ByteArray} {f k:Nat} {out:ByteArray} (hf:s.size < f + k) (hk:k < s.size) (hc:byt s k=34):txtF s f k out=if out.size=0\/40 < out.size then none else some (out,k + 1):=by obtain ⟨g,rfl⟩:∃ g,f=g + 1:=⟨f - 1,by omega⟩;unfold txtF;rw [if_pos hk,if_pos hc]
theorem A6h {s:ByteArray} {f k:Nat} {out:ByteArray} (hc:byt s k ≠ 34) (h:readO s k spT=none):txtF s f k out=none:=by
 cases f
 · rfl
 · unfold txtF;rw [if_neg hc,h];simp
theorem XP {s:ByteArray} {f k m:Nat} {out u:ByteArray} (hf:s.size < f + k) (hc:byt s k ≠ 34) (h:readO s k spT=some (u,m)):txtF s f k out=txtF s (f - 1) m (out ++ u):=by have hk:=(tK h).1;obtain ⟨g,rfl⟩:∃ g,f=g + 1:=⟨f - 1,by omega⟩;rw [txtF.eq_2,if_pos hk,if_neg hc,h];rfl
theorem tO {s:ByteArray} {f k:Nat} {out:ByteArray} (hk:¬ k < s.size):txtF s f k out=none:=by
 cases f
 · rfl
 · unfold txtF;rw [if_neg hk]
def txtO (s:ByteArray) (i:Int):Option (ByteArray × Nat):=if bG s i 34=true then txtF s (s.size + 1) (i.toNat + 1) ⟨#[]⟩ else none
def Zm:Option (ByteArray × Nat)->Value
 | none=>.tuple #[.string ⟨#[]⟩,.int .i64 0,.bool false]
 | some (u,m)=>.tuple #[.string u,.int .i64 (m:Int),.bool true]
theorem Jh {o:Option (ByteArray × Nat)} (h:o=none):Ending.returned (.tuple #[.string ⟨#[]⟩,.int .i64 0,.bool false])=.returned (Zm o):=by rw [h];rfl
theorem A9r {o:Option (ByteArray × Nat)} {u t:ByteArray} {m:Nat} {n:Int} (h:o=some (u,m)) (ht:t=u) (hn:n=(m:Int)):Ending.returned (.tuple #[.string t,.int .i64 n,.bool true])=.returned (Zm o):=by rw [h,ht,hn];rfl
end Go.Proofs.YthkdnehgamefiaaGreat
