import Derived.Test.YthkdnehgamefiaaJnF
namespace Go.Proofs.Ythkdnehgamefiaa
set_option linter.unusedVariables false
open Go.RowKit Go.Sort
theorem Ci (N:List Nj) (n:Nat) (ks:List Nat):(Cv N n ks).length=N.length:=by unfold Cv;simp
theorem PW {P:Ex->List Nj->Pt} (hP:∀ y N,N.length<=(P y N).1.length):∀ (K:List Ex) (N:List Nj) (ks:List Nat),N.length<=(kV P K N ks).1.length
 | [],N,ks=>Nat.le_refl _
 | y :: r,N,ks=>by
  have h1:=hP y N;unfold kV
  cases hp:P y N with
  | mk N1 q =>
   obtain ⟨F1,n1⟩:=q;rw [hp] at h1
   cases F1 with
   | none=>exact Nat.le_trans h1 (PW hP r N1 (ks ++ [n1]))
   | some f=>exact h1
theorem A9m (n:Nat) (r:Pk):(AY n r).1.length=r.1.length:=by
 obtain ⟨N,F,ks⟩:=r
 cases F with
 | none=>exact Ci N n ks
 | some f=>rfl
theorem A1T (ML:List Md) (F:List Nat) (mod:Nat) (ru:Int):∀ (d:Nat) (e:Ex) (N:List Nj),N.length<=(uS ML F mod ru d e N).1.length
 | 0,e,N=>Nat.le_refl _
 | d + 1,e,N=>by
  unfold uS;split
  · exact Nat.le_refl _
  ·
   cases toO ML F mod e with
   | none=>exact Nat.le_refl _
   | some tt =>
    simp only [];rw [A9m];exact Nat.le_trans (by simp) (PW (A1T ML F mod ru d) e.kids _ [])
abbrev ExZ:Obj:=.cells #[.int .i64 0,.string ⟨#[]⟩,.int .u64 0,.int .u64 0,.int .u64 0,.int .u64 0,.slice none 0 0] 42
theorem YH (no:ByteArray) (B:List ByteArray) (x:ByteArray) (r:List ByteArray):nL no B (x :: r)=(bN x && !(x.toList == no.toList) && !(hasB B x) && nL no (B ++ [x]) r):=rfl
theorem B8k {m:Md} (hw:Wel m) (h4:m.im.length<=4) (h24:m.ru.length<=24):Qx m=(nL m.nm [] m.im && (!m.wet || dQ 53 m.wa) && m.ru.all (fun r=>dQ 53 r.2) && nL ⟨#[]⟩ [] (m.ru.map (·.1))):=by unfold Qx;rw [hw.nm,aT h4,aT h24];simp
theorem RX {f:ByteArray × Ex->Bool} {K:List (ByteArray × Ex)} {k:Nat} {y:ByteArray × Ex} (h:K[k]?=some y):(K.take (k + 1)).all f=((K.take k).all f && f y):=by obtain ⟨h1,h2⟩:=aS.1 h;rw [List.take_succ_eq_append_getElem h1,List.all_append,h2];simp
theorem DF {f:ByteArray × Ex->Bool} {K:List (ByteArray × Ex)} {k:Nat} {y:ByteArray × Ex} (h:K[k]?=some y) (hf:f y=false):K.all f=false:=by rw [List.all_eq_false];exact ⟨y,aM h,by rw [hf];simp⟩
end Go.Proofs.Ythkdnehgamefiaa
