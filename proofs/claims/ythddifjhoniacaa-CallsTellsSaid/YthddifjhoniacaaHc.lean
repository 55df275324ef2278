import Derived.Test.YthddifjhoniacaaHz
namespace Go.Proofs.Ythddifjhoniacaa
set_option linter.unusedVariables false
set_option maxHeartbeats 1600000
set_option maxRecDepth 1000000
open Go.RowKit Go.Sort
def idxF {α:Type} (p:α->Bool):Nat->List α->Int
 | _,[]=>-1
 | k,x :: r=>if p x=true then (k:Int) else idxF p (k + 1) r
def findN (l:List Md) (s:ByteArray):Int:=idxF (fun m=>m.nm.toList == s.toList) 0 l
def ruleN (m:Md) (s:ByteArray):Int:=idxF (fun r=>r.1.toList == s.toList) 0 m.ru
theorem info_int:(Try.prog.info? 3).map (fun i=>(i.zero,i.size,i.bytes))=some (some (.int .i64 0),1,8):=by kernel_rfl
def HasIn (w:World) (ao:Option Addr) (L:List Int):Prop:=∀ k x,L[k]?=some x->∃ b off,ao=some ⟨b,off,none⟩/\b < w.heap.size/\w.cell? ⟨b,off + k,none⟩=some (.int .i64 x)
theorem HasIn.below {w w':World} {ao:Option Addr} {L:List Int} (h:HasIn w ao L) (hb:Below w.heap.size w w'):HasIn w' ao L:=fun k x hx=>by obtain ⟨b,off,e,hlt,c⟩:=h k x hx;exact ⟨b,off,e,aL hlt hb.size,keepc c hb⟩
def seenL (l:List Md) (m:Md) (i:Int):List Int:=i :: (m.im.map (findN l)).filter (fun k=>decide (0<=k))
theorem idxF_bd {α:Type} (p:α->Bool):∀ (k:Nat) (l:List α),idxF p k l=-1\/((k:Int)<=idxF p k l/\idxF p k l < k + l.length)
 | _,[]=>.inl rfl
 | k,x :: r=>by
  unfold idxF;split
  · right;simp;omega
  ·
   rcases idxF_bd p (k + 1) r with h | h
   · exact .inl h
   · right;simp at h ⊢;omega
theorem idxF_at {α:Type} (p:α->Bool):∀ (k:Nat) (l:List α),0<=idxF p k l->∃ x,l[(idxF p k l).toNat - k]?=some x/\p x=true
 | _,[],h=>by simp [idxF] at h
 | k,x :: r,h=>by
  unfold idxF at h ⊢;split
  · rename_i hp;exact ⟨x,by simp,hp⟩
  · rename_i hp;rw [if_neg hp] at h;obtain ⟨y,h1,h2⟩:=idxF_at p (k + 1) r h;have hb:=idxF_bd p (k + 1) r;refine ⟨y,?_,h2⟩;rw [show (idxF p (k + 1) r).toNat - k=((idxF p (k + 1) r).toNat - (k + 1)) + 1 by omega,List.getElem?_cons_succ];exact h1
theorem rfind_any (ML:List Md) (D:Nat) (mo:Option Addr) (mc:Nat) (s:ByteArray) (hn:(ML.length:Int)<=1000000) (w:World) (hM:HasMs w D mo ML) :
  Calls Try.prog 57 #[.slice mo ML.length mc,.string s] w fun e w'=>e=.returned (.int .i64 (findN ML s))/\w=w':=by
 obtain ⟨nn,hM1⟩:=hM;have HX:=aH hM1;obtain ⟨n,hnn⟩:∃ n,ML.length=n:=⟨_,rfl⟩;have HN:=aH hnn;rw [hnn] at hn ⊢;clear hM1 hnn;go_enter Try.func57,Try.ntmps57;go_wp2_with fail
 go_loopw [5] (fun v8 wr=>∃ k:Nat,v8=.int .i64 (k:Int)/\(k:Int)<=n/\aQ (findN ML s=idxF (fun m=>m.nm.toList == s.toList) k (ML.drop k))/\wr=w) (fun v8 _=>n - (intOf v8).toNat)
 case atStart=>exact ⟨0,rfl,by omega,aH (by rw [List.drop_zero];rfl),(by first | trivial | rfl)⟩
 case round =>
  obtain ⟨k,rfl,hk,HQ,rfl⟩:=hrel;by_cases hlt:(k:Int) < n
  ·
   obtain ⟨x,hx⟩:∃ x,ML[k]?=some x:=⟨_,aG (by have:=HN.o;omega)⟩
   have HD:=aH (show ML.drop k=x :: ML.drop (k + 1) from by
    obtain ⟨h1,h2⟩:=aS.1 hx
    rw [List.drop_eq_getElem_cons h1,h2])
   obtain ⟨b,off,io,ic,ko,kc,ro,rc,rfl,hb,_,c0,-⟩:=HX.o k x hx;have hw1:IntKind.i64.wrap ((k:Int) + 1)=(k:Int) + 1:=wI;obtain ⟨z,hz⟩:∃ z,(x.nm.toList == s.toList)=z:=⟨_,rfl⟩;have HZ:=aH (show findN ML s=if z=true then (k:Int) else idxF (fun m=>m.nm.toList == s.toList) (k + 1) (ML.drop (k + 1)) from by rw [HQ.o,HD.o,<- hz];rfl);clear hx HD HQ
   cases z
   ·
    go_wp2
    go_roundw
    case rel=>exact ⟨k + 1,by go_num,by omega,aH (HZ.o.trans (if_neg (by decide))),(by first | trivial | rfl)⟩
    case measure=>simp [intOf];omega
   · have HE:=aH (HZ.o.trans (if_pos rfl));go_wp2;go_ret;exact ⟨ret_int HE.o.symm,rfl⟩
  · have HE:=aH (show findN ML s=-1 from by rw [HQ.o,List.drop_eq_nil_of_le (by have:=HN.o;omega)];rfl);have hlt':decide ((k:Int) < n)=false:=aF hlt;go_wp2;go_ret;exact ⟨ret_int HE.o.symm,rfl⟩
theorem rrule_any (m:Md) (D nn:Nat) (io:Option Addr) (ic:Nat) (ko:Option Addr) (kc:Nat) (ro:Option Addr) (rc:Nat) (s:ByteArray) (hn:(m.ru.length:Int)<=1000000) (w:World) (hM:HasRu w D nn ro m.ru) :
  Calls Try.prog 60 #[.agg #[.string m.nm,.slice io m.im.length ic,.bool m.wet,.int .i64 m.wa.op,.string m.wa.text,.int .u64 m.wa.s0,.int .u64 m.wa.s1,.int .u64 m.wa.s2,.int .u64 m.wa.s3,.slice ko m.wa.kids.length kc,.slice ro m.ru.length rc],.string s] w fun e w'=>e=.returned (.int .i64 (ruleN m s))/\Below w.heap.size w w':=by
 have hb:Below w.heap.size w (w.alloc (.cells #[.string m.nm,.slice io m.im.length ic,.bool m.wet,.int .i64 m.wa.op,.string m.wa.text,.int .u64 m.wa.s0,.int .u64 m.wa.s1,.int .u64 m.wa.s2,.int .u64 m.wa.s3,.slice ko m.wa.kids.length kc,.slice ro m.ru.length rc] 75)):=bA _;have HX:=aH (hM.but (But.of_below (S:=fun _=>False) hb) (fun _ h=>h.elim));obtain ⟨n,hnn⟩:∃ n,m.ru.length=n:=⟨_,rfl⟩;have HN:=aH hnn;rw [hnn] at hn hb HX;rw [hnn];have HB:=aH hb;have HO:=aH (Own.fresh w 75 [.string m.nm,.slice io m.im.length ic,.bool m.wet,.int .i64 m.wa.op,.string m.wa.text,.int .u64 m.wa.s0,.int .u64 m.wa.s1,.int .u64 m.wa.s2,.int .u64 m.wa.s3,.slice ko m.wa.kids.length kc,.slice ro n rc]);clear hb hM hnn;go_enter Try.func60,Try.ntmps60;go_upto_region 1 with fail;generalize w.alloc _=w1 at *;generalize hG:w.heap.size=G at *;obtain ⟨z0,z1,z2,z3,z4,z5,z6,z7,z8,z9,zA⟩:=HO.o.elev;have zl:=HO.o.lt;clear z0 z1 z2 z3 z4 z5 z6 z7 z8 z9;go_wp2_with fail
 go_loopw [5] (fun v8 wr=>∃ k:Nat,v8=.int .i64 (k:Int)/\(k:Int)<=n/\aQ (ruleN m s=idxF (fun r=>r.1.toList == s.toList) k (m.ru.drop k))/\wr=w1) (fun v8 _=>n - (intOf v8).toNat)
 case atStart=>exact ⟨0,rfl,by omega,aH (by rw [List.drop_zero];rfl),(by first | trivial | rfl)⟩
 case round =>
  obtain ⟨k,rfl,hk,HQ,rfl⟩:=hrel;by_cases hlt:(k:Int) < n
  ·
   obtain ⟨x,hx⟩:∃ x,m.ru[k]?=some x:=⟨_,aG (by have:=HN.o;omega)⟩
   have HD:=aH (show m.ru.drop k=x :: m.ru.drop (k + 1) from by
    obtain ⟨h1,h2⟩:=aS.1 hx
    rw [List.drop_eq_getElem_cons h1,h2])
   obtain ⟨b,off,k2,kc2,hro,hb,_,c0,-⟩:=HX.o k x hx;rw [hro] at zA;have hw1:IntKind.i64.wrap ((k:Int) + 1)=(k:Int) + 1:=wI;obtain ⟨z,hz⟩:∃ z,(x.1.toList == s.toList)=z:=⟨_,rfl⟩;have HZ:=aH (show ruleN m s=if z=true then (k:Int) else idxF (fun r=>r.1.toList == s.toList) (k + 1) (m.ru.drop (k + 1)) from by rw [HQ.o,HD.o,<- hz];rfl);clear hx HD HQ hro
   cases z
   ·
    go_wp2
    go_roundw
    case rel=>exact ⟨k + 1,by go_num,by omega,aH (HZ.o.trans (if_neg (by decide))),(by first | trivial | rfl)⟩
    case measure=>simp [intOf];omega
   · have HE:=aH (HZ.o.trans (if_pos rfl));go_wp2;go_ret;exact ⟨ret_int HE.o.symm,HB.o⟩
  · have HE:=aH (show ruleN m s=-1 from by rw [HQ.o,List.drop_eq_nil_of_le (by have:=HN.o;omega)];rfl);have hlt':decide ((k:Int) < n)=false:=aF hlt;go_wp2;go_ret;exact ⟨ret_int HE.o.symm,HB.o⟩
end Go.Proofs.Ythddifjhoniacaa
