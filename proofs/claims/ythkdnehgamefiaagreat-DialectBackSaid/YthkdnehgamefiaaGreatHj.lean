import Derived.Test.YthkdnehgamefiaaGreatHc
import Derived.Test.YthkdnehgamefiaaGreatRows
import Derived.ProofKit
import Derived.OpenShut
import Derived.Deep.Slices
namespace Go.Proofs.YthkdnehgamefiaaGreat
set_option linter.unusedVariables false
set_option maxRecDepth 1000000
open Go.RowKit Go.Sort
theorem A0N {L:List Tok} {nm:ByteArray}:∀ (f:Nat) (im:List ByteArray) (k:Nat) (im':List ByteArray) (k':Nat),im.length<=4->yD L nm f im k=.ok (im',k')->im'.length<=4
 | 0,im,k,im',k',h,e=>by unfold yD at e;injection e with e;injection e with e1 e2;subst e1;exact h
 | f + 1,im,k,im',k',h,e=>by
  unfold yD at e;split at e
  ·
   split at e
   · cases e
   ·
    rename_i h4
    cases hq:pV L (nm :: im) (k + 1) with
    | error x=>simp [hq] at e
    | ok p =>
     obtain ⟨x,k1⟩:=p;simp only [hq] at e
     cases hs:oO L [59] k1 with
     | error x=>simp [hs] at e
     | ok k2 =>
      simp only [hs] at e;exact A0N f _ k2 im' k' (by rw [List.length_append];show im.length + 1<=4;omega) e
  · injection e with e;injection e with e1 e2;subst e1;exact h
theorem A1y {L:List Tok}:∀ (f:Nat) (R:List (ByteArray × Ex)) (k:Nat) (R':List (ByteArray × Ex)),R.length<=24->uE L f R k=.ok R'->R'.length<=24
 | 0,R,k,R',h,e=>by unfold uE at e;injection e with e;subst e;exact h
 | f + 1,R,k,R',h,e=>by
  unfold uE at e;split at e
  · injection e with e;subst e;exact h
  ·
   cases hq:pV L (R.map (·.1)) k with
   | error x=>simp [hq] at e
   | ok p =>
    obtain ⟨x,k1⟩:=p;simp only [hq] at e;split at e
    · cases e
    ·
     rename_i h24
     cases hb:uW L k1 with
     | error x=>simp [hb] at e
     | ok p =>
      obtain ⟨y,k2⟩:=p;simp only [hb] at e;exact A1y f _ k2 R' (by rw [List.length_append];show R.length + 1<=24;omega) e
theorem B0I {L:List Tok} {m:Md} {k:Nat} (h:Oz L=.ok (m,k)):m.im.length<=4:=by
 rw [VF] at h;split at h
 ·
  unfold AP at h;split at h
  · cases h
  ·
   rename_i x k1 hx;split at h
   · cases h
   ·
    rename_i k2 _;have h:hdT L x (yD L x (L.length + 1) [] k2)=.ok (m,k):=h
    cases hi:yD L x (L.length + 1) [] k2 with
    | error e=>rw [hi] at h;cases h
    | ok p =>
     obtain ⟨im,k3⟩:=p;rw [hi] at h;have hl:=A0N _ _ _ _ _ (by simp) hi;have h:BG L x im k3=.ok (m,k):=h;rw [XV] at h;split at h
     ·
      cases hb:uW L (k3 + 1) with
      | error e=>rw [hb] at h;cases h
      | ok p =>
       obtain ⟨y,k4⟩:=p;rw [hb] at h;injection h with h;injection h with h1 h2;subst h1;exact hl
     · injection h with h;injection h with h1 h2;subst h1;exact hl
 · cases h
theorem B1c {s:ByteArray} {m:Md} (h:yU s=.ok m):m.im.length<=4/\m.ru.length<=24:=by
 unfold yU at h;split at h
 · cases h
 ·
  rename_i L _;rw [IZ] at h
  cases hh:Oz L with
  | error e=>rw [hh] at h;cases h
  | ok p =>
   obtain ⟨m0,k⟩:=p;rw [hh] at h;have h:mdT m0 (uE L (L.length + 1) [] k)=.ok m:=h
   cases hr:uE L (L.length + 1) [] k with
   | error e=>rw [hr] at h;cases h
   | ok R =>
    rw [hr] at h;injection h with h;subst h;have h1:=B0I hh;have h2:=A1y _ _ _ _ (by simp) hr;exact ⟨h1,h2⟩
theorem Xj {a b:ByteArray} (h:a.toList=b.toList):a=b:=by rw [ByteArray.toList_eq,ByteArray.toList_eq] at h;exact ByteArray.ext (Array.toList_inj.1 h)
theorem Nf {L:List Tok} {no:List ByteArray} {k:Nat} {x:ByteArray} {k1:Nat} (h:pV L no k=.ok (x,k1)):bN x=true:=by
 unfold pV at h;split at h
 ·
  rename_i hc;split at h
  · cases h
  · injection h with h;injection h with h1 h2;subst h1;rw [Bool.and_eq_true] at hc;exact hc.2
 · cases h
theorem Yx {L:List Tok}:∀ (f:Nat) (R:List (ByteArray × Ex)) (k:Nat) (R':List (ByteArray × Ex)),(∀ r ∈ R,bN r.1=true)->uE L f R k=.ok R'->∀ r ∈ R',bN r.1=true
 | 0,R,k,R',h,e=>by unfold uE at e;injection e with e;subst e;exact h
 | f + 1,R,k,R',h,e=>by
  unfold uE at e;split at e
  · injection e with e;subst e;exact h
  ·
   cases hq:pV L (R.map (·.1)) k with
   | error x=>simp [hq] at e
   | ok p =>
    obtain ⟨x,k1⟩:=p;simp only [hq] at e;split at e
    · cases e
    ·
     cases hb:uW L k1 with
     | error x=>simp [hb] at e
     | ok p =>
      obtain ⟨y,k2⟩:=p;simp only [hb] at e;refine Yx f _ k2 R' (fun r hr=>?_) e;rcases List.mem_append.1 hr with hr | hr
      · exact h r hr
      · rw [List.mem_singleton] at hr;subst hr;exact Nf hq
def Okx (x:Ex):Prop:=TxA 100000 x/\fit 90001 53 x=true
theorem Okx.zero:Okx ex0:=⟨TxA.leaf (Nat.zero_le _),Em (n:=52)⟩
theorem MK {s:ByteArray} {p m:Nat} {t:Tok} (h:tkO s p=some (t,m)):fits t.st:=by
 unfold tkO at h;split at h
 ·
  split at h
  · injection h with h;injection h with h3 h4;subst h3;exact nD
  · cases h
 split at h
 ·
  cases hq:txtO s (p:Int) with
  | none=>rw [hq] at h;cases h
  | some q =>
   obtain ⟨u,n⟩:=q;rw [hq] at h;injection h with h;injection h with h3 h4;subst h3;exact nD
 split at h
 ·
  cases hq:clsO s (p:Int) with
  | none=>rw [hq] at h;cases h
  | some q =>
   obtain ⟨u,n⟩:=q;rw [hq] at h;injection h with h;injection h with h3 h4;subst h3;exact (Eb hq).2.2.2.1
 split at h
 · cases h
 · injection h with h;injection h with h3 h4;subst h3;exact nD
theorem Dw {s:ByteArray}:∀ (f k:Nat) (L:List Tok),allF s f k=.ok L->∀ t ∈ L,fits t.st
 | 0,k,L,h=>by cases h
 | f + 1,k,L,h=>by
  have one:∀ t m,nextO s k=some (t,m)->fits t.st:=fun t m hq=>by
   unfold nextO at hq;split at hq
   · injection hq with hq;injection hq with h3 h4;subst h3;exact nD
   · exact MK hq
  unfold allF at h;split at h
  · cases h
  ·
   rename_i t m hq;split at h
   · injection h with h;intro u hu;rw [<- h,List.mem_singleton] at hu;subst hu;exact one u m hq
   ·
    cases hq2:allF s f m with
    | error e=>simp [hq2] at h
    | ok M =>
     simp only [hq2] at h;injection h with h;intro u hu;rw [<- h,List.mem_cons] at hu;rcases hu with rfl | hu
     · exact one u m hq
     · exact Dw f m M hq2 u hu
structure Wel (m:Md):Prop where
 nm:bN m.nm=true
 im:∀ x ∈ m.im,bN x=true
 ru:∀ r ∈ m.ru,bN r.1=true
 wa:Okx m.wa
 bo:∀ r ∈ m.ru,Okx r.2
 dry:m.wet=false->m.wa=ex0
theorem YM {L:List Tok} (hL:∀ t ∈ L,Tk 100000 t) (hn:L.length<=90000) {k k2:Nat} {x:Ex} (h:uW L k=.ok (x,k2)):Okx x:=by
 unfold uW at h
 cases h1:oO L [61] k with
 | error e=>simp [h1] at h
 | ok k1 =>
  simp only [h1] at h
  cases h2:rdO L k1 with
  | error e=>simp [h2] at h
  | ok p =>
   obtain ⟨y,m⟩:=p;simp only [h2] at h
   cases h3:oO L [59] m with
   | error e=>simp [h3] at h
   | ok m' =>
    simp only [h3] at h;obtain ⟨rfl,rfl⟩:y=x/\m'=k2:=(by simpa using h);exact B8e (by omega) hL hn k1 _ _ h2
theorem PT {L:List Tok} {nm:ByteArray}:∀ (f:Nat) (im:List ByteArray) (k:Nat) (im':List ByteArray) (k':Nat),(∀ x ∈ im,bN x=true)->yD L nm f im k=.ok (im',k')->∀ x ∈ im',bN x=true
 | 0,im,k,im',k',h,e=>by unfold yD at e;injection e with e;injection e with e1 e2;subst e1;exact h
 | f + 1,im,k,im',k',h,e=>by
  unfold yD at e;split at e
  ·
   split at e
   · cases e
   ·
    cases hq:pV L (nm :: im) (k + 1) with
    | error x=>simp [hq] at e
    | ok p =>
     obtain ⟨x,k1⟩:=p;simp only [hq] at e
     cases hs:oO L [59] k1 with
     | error x=>simp [hs] at e
     | ok k2 =>
      simp only [hs] at e;refine PT f _ k2 im' k' (fun y hy=>?_) e;rw [List.mem_append,List.mem_singleton] at hy;rcases hy with hy | rfl
      · exact h y hy
      · exact Nf hq
  · injection e with e;injection e with e1 e2;subst e1;exact h
theorem A1z {L:List Tok} (hL:∀ t ∈ L,Tk 100000 t) (hn:L.length<=90000):∀ (f:Nat) (R:List (ByteArray × Ex)) (k:Nat) (R':List (ByteArray × Ex)),(∀ r ∈ R,Okx r.2)->uE L f R k=.ok R'->∀ r ∈ R',Okx r.2
 | 0,R,k,R',h,e=>by unfold uE at e;injection e with e;subst e;exact h
 | f + 1,R,k,R',h,e=>by
  unfold uE at e;split at e
  · injection e with e;subst e;exact h
  ·
   cases hq:pV L (R.map (·.1)) k with
   | error x=>simp [hq] at e
   | ok p =>
    obtain ⟨x,k1⟩:=p;simp only [hq] at e;split at e
    · cases e
    ·
     cases hb:uW L k1 with
     | error x=>simp [hb] at e
     | ok p =>
      obtain ⟨y,k2⟩:=p;simp only [hb] at e;refine A1z hL hn f _ k2 R' (fun r hr=>?_) e;rcases List.mem_append.1 hr with hr | hr
      · exact h r hr
      · rw [List.mem_singleton] at hr;subst hr;exact YM hL hn hb
theorem B0J {L:List Tok} (hL:∀ t ∈ L,Tk 100000 t) (hn:L.length<=90000) {m:Md} {k:Nat} (h:Oz L=.ok (m,k)):Wel m:=by
 rw [VF] at h;split at h
 ·
  unfold AP at h;split at h
  · cases h
  ·
   rename_i x k1 hx;have hw:=Nf hx;split at h
   · cases h
   ·
    rename_i k2 _;have h:hdT L x (yD L x (L.length + 1) [] k2)=.ok (m,k):=h
    cases hi:yD L x (L.length + 1) [] k2 with
    | error e=>rw [hi] at h;cases h
    | ok p =>
     obtain ⟨im,k3⟩:=p;rw [hi] at h;have hl:=PT _ _ _ _ _ (fun x hx=>absurd hx List.not_mem_nil) hi;have h:BG L x im k3=.ok (m,k):=h;rw [XV] at h;split at h
     ·
      cases hb:uW L (k3 + 1) with
      | error e=>rw [hb] at h;cases h
      | ok p =>
       obtain ⟨y,k4⟩:=p;rw [hb] at h;injection h with h;injection h with h1 h2;subst h1;exact ⟨hw,hl,fun r hr=>absurd hr List.not_mem_nil,YM hL hn hb,fun r hr=>absurd hr List.not_mem_nil,fun h=>by cases h⟩
     · injection h with h;injection h with h1 h2;subst h1;exact ⟨hw,hl,fun r hr=>absurd hr List.not_mem_nil,Okx.zero,fun r hr=>absurd hr List.not_mem_nil,fun _=>rfl⟩
 · cases h
theorem B1d {s:ByteArray} (hs:s.size<=1000) {m:Md} (h:yU s=.ok m):Wel m:=by
 have h0:=h;unfold yU at h;split at h
 · cases h
 ·
  rename_i L hL0;have hL:∀ t ∈ L,Tk 100000 t:=fun t ht=>⟨by have:=rH _ _ _ (Nat.zero_le _) hL0 t ht;omega,Dw _ _ _ hL0 t ht⟩;have hn:L.length<=90000:=by have:=oV _ _ _ hL0;omega
  rw [IZ] at h
  cases hh:Oz L with
  | error e=>rw [hh] at h;cases h
  | ok p =>
   obtain ⟨m0,k⟩:=p;rw [hh] at h;have h:mdT m0 (uE L (L.length + 1) [] k)=.ok m:=h
   cases hr:uE L (L.length + 1) [] k with
   | error e=>rw [hr] at h;cases h
   | ok R =>
    rw [hr] at h;injection h with h;subst h;have h1:=B0J hL hn hh;exact ⟨h1.nm,h1.im,Yx _ _ _ _ (fun r hr=>absurd hr List.not_mem_nil) hr,h1.wa,A1z hL hn _ _ _ _ (fun r hr=>absurd hr List.not_mem_nil) hr,h1.dry⟩
end Go.Proofs.YthkdnehgamefiaaGreat
namespace Go.Proofs.YthkdnehgamefiaaGreat
set_option maxRecDepth 1000000
set_option linter.unusedVariables false
set_option maxRecDepth 1000000
open Go.ChangeShapes Go.WideShapes Go.ChangeAt Go.RowKit
section
variable {H:Type} {enc:TypeId × Value->H} {W:World} {base:Nat} {sp:Nat->Bool} {held:Bool} {v:Value} {d:DataW H} {p:List MemPlace}
theorem cO {t:TypeId} (ht:Tryz.prog.underlying t=some .string) (hval:Value.okWide Tryz.prog W .any base t v) (h:DataW.Trod enc Tryz.prog W 0 sp held t v d p) :
  ∃ s:ByteArray,v=.string s/\s.size<=maxLen:=by
 obtain ⟨s,rfl,_,_,hs⟩:=Go.ChangeMaps.open_string ht hval h;exact ⟨s,rfl,hs⟩
end
end Go.Proofs.YthkdnehgamefiaaGreat
namespace Go.Proofs.YthkdnehgamefiaaGreat
set_option maxRecDepth 1000000
set_option linter.unusedVariables false
set_option maxRecDepth 1000000
open Go.ChangeShapes Go.WideShapes Go.ChangeAt Go.RowKit Go.Deep
theorem YT:Tryz.prog.cellsOf 9=1:=by kernel_rfl
theorem B3s {b off:Nat} (i j:Nat):((⟨b,off,none⟩:Addr).add i).add j=⟨b,off + i + j,none⟩:=by rw [Addr.add_lit,Addr.add_lit]
section
variable {H:Type} {enc:TypeId × Value->H} {W:World} {sp:Nat->Bool} {held:Bool}
theorem B0t {α:Type} {n:Nat} {P:Nat->α->Prop} (h:∀ k,k < n->∃ x,P k x):∃ L:List α,L.length=n/\∀ k x,L[k]?=some x->P k x:=by
 induction n with
 | zero=>exact ⟨[],rfl,fun k x h=>by simp at h⟩
 | succ n ih =>
  obtain ⟨L,hl,hL⟩:=ih fun k hk=>h k (by omega);obtain ⟨x,hx⟩:=h n (by omega);refine ⟨L ++ [x],by simp [hl],fun k y hk=>?_⟩;by_cases c:k < n
  · rw [List.getElem?_append_left (by omega)] at hk;exact hL k y hk
  · have hk':k < (L ++ [x]).length:=(aS.1 hk).1;simp at hk';obtain rfl:k=n:=(by omega);rw [List.getElem?_append_right (by omega),hl] at hk;simp at hk;subst hk;exact hx
theorem B6j {f:Nat} (c:Value) (x:DataW H × List MemPlace) (h:DataW.trod enc Tryz.prog W 0 sp held f 22 [c]=some x) :
  ∃ (N:List ByteArray) (ao:Option Addr) (cap:Nat),c=.slice ao N.length cap/\gI W ao N/\N.length<=maxLen:=by
 rcases DataW.trod_slice Tryz.underlying22 h with ⟨hcs,_⟩ | ⟨a,len,cap,elems,rest,n,hn,hcs,_,hb,hl,hm,hlen,hel,_,_⟩
 · simp at hcs;subst hcs;exact ⟨[],none,0,rfl,fun k x h=>by simp at h,Nat.zero_le _⟩
 ·
  simp at hcs;subst hcs hn;have hspot:0 < len->a.spot=none:=fun h0=>by have hk1:=hel 0 h0;rw [aG (by omega)] at hk1;obtain ⟨cs',hc,_⟩:=Option.bind_eq_some_iff.1 hk1;rw [YT] at hc;obtain ⟨_,hcl2,hat⟩:=World.cells?_some hc;have w0:=hat 0 (by omega);rw [aG (by omega)] at w0;have:=World.cell?_spot w0;simpa [Addr.add] using this
  have each:∀ k,k < len->∃ X:ByteArray,∃ g off,some a=some ⟨g,off,none⟩/\g < W.heap.size/\W.cell? ⟨g,off + k,none⟩=some (.string X):=fun k hk=>by
   have hk1:=hel k hk;rw [aG (by omega)] at hk1;obtain ⟨cs',hc,ht⟩:=Option.bind_eq_some_iff.1 hk1;rw [YT] at hc;obtain ⟨_,hcl2,hat⟩:=World.cells?_some hc
   match cs',hcl2 with
   | [c0],_ =>
    obtain ⟨s,hs0,_⟩:=DataW.trod_string Tryz.underlying9 ht;simp at hs0;subst hs0;have w0:=hat 0 (by omega);have hs:a.spot=none:=hspot (by omega);obtain ⟨b,off,spot⟩:=a;obtain rfl:spot=none:=hs;rw [show ((⟨b,off,none⟩:Addr).add (k * 1)).add 0=⟨b,off + k,none⟩ by rw [B3s];simp] at w0;exact ⟨s,b,off,rfl,World.block_lt_of_cell? W _ w0,w0⟩
  obtain ⟨L,hL,hk⟩:=B0t each;exact ⟨L,some a,cap,by rw [hL],fun k X hX=>hk k X hX,by rw [hL];omega⟩
end
end Go.Proofs.YthkdnehgamefiaaGreat
