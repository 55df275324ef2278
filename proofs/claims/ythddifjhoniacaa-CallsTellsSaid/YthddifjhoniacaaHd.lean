import Derived.Test.YthddifjhoniacaaHr
import Derived.Test.YthddifjhoniacaaShelf
import Derived.Lib.IndexMore
import Derived.ShutString
import Derived.Lib.IndexBytes
import Derived.Deep.Cut
import Derived.Test.YthddifjhoniacaaHc
namespace Go.Proofs.Ythddifjhoniacaa
set_option linter.unusedVariables false
open Go.RowKit Go.Sort
def cutS (s:ByteArray):List UInt8 × List UInt8 × Bool:=Lib.cut s.data.toList [58,58]
def splitM (s:ByteArray):ByteArray:=if (cutS s).2.2=true then ofL (cutS s).1 else ofL []
def splitR (s:ByteArray):ByteArray:=if (cutS s).2.2=true then ofL (cutS s).2.1 else s
def splitB (s:ByteArray):Bool:=if (cutS s).2.2=true then wordB (ofL (cutS s).1) && wordB (ofL (cutS s).2.1) else wordB s
def sep:ByteArray:=⟨#[58,58]⟩
theorem sepL:sep.toList=[58,58]:=by decide +kernel
theorem cutS_yes {s:ByteArray} {k:Nat} (h:Lib.index s.data.toList [58,58]=(k:Int)):cutS s=(s.data.toList.take k,s.data.toList.drop (k + 2),true):=by unfold cutS Lib.cut;rw [h,if_pos (by omega)];simp
theorem cutS_no {s:ByteArray} (h:Lib.index s.data.toList [58,58]=-1):cutS s=(s.data.toList,[],false):=by unfold cutS Lib.cut;rw [h,if_neg (by omega)]
theorem rword_is (s:ByteArray) (hs:s.size<=maxLen) (b:Bool) (h:wordB s=b) (w:World):Calls Try.prog 71 #[.string s] w fun e w'=>e=.returned (.bool b)/\w'=w:=(rword_any s hs w).mono fun _ _ ⟨he,hw⟩=>⟨by rw [he,h],hw.symm⟩
set_option maxHeartbeats 3200000 in
theorem rsplit_any (s:ByteArray) (hs:s.size<=1000000) (w:World):Calls Try.prog 59 #[.string s] w
  fun e w'=>e=.returned (.tuple #[.string (splitM s),.string (splitR s),.bool (splitB s)])/\Below w.heap.size w w':=by
 have HSM:=aH (show splitM s=if (cutS s).2.2=true then ofL (cutS s).1 else ofL [] from rfl);have HSR:=aH (show splitR s=if (cutS s).2.2=true then ofL (cutS s).2.1 else s from rfl);have HSB:=aH (show splitB s=if (cutS s).2.2=true then wordB (ofL (cutS s).1) && wordB (ofL (cutS s).2.1) else wordB s from rfl);go_enter Try.func59,Try.ntmps59;go_wp2
 go_loop [5] (fun i=>∃ k:Nat,k<=s.size/\i=.int .i64 k/\aQ (Lib.NoOccB s sep k)) (fun i=>s.size - (intOf i).toNat)
 case atStart=>exact ⟨0,Nat.zero_le _,rfl,aH (Lib.NoOcc.zero _ _)⟩
 case round =>
  obtain ⟨k,hk,rfl,HA⟩:=hrel;by_cases hlt:(k:Int) + 1 < s.size
  ·
   obtain ⟨b,hb⟩:∃ b,((s.extract k (k + 2)).toList == [58,58])=b:=⟨_,rfl⟩
   cases b
   ·
    have H1:=aH (Lib.miss_piece s sep k HA.o (by show k + 2<=s.size;omega) (by rw [sepL];exact hb));go_wp2
    go_round
    case rel=>exact ⟨k + 1,by omega,by go_num,H1⟩
    case measure=>simp [intOf];omega
   ·
    have hi:=Lib.hit s sep k HA.o (by show k + 2<=s.size;omega) (by rw [sepL];exact hb);have hcut:=cutS_yes (s:=s) (k:=k) hi;rw [hcut] at HSM HSR HSB;simp only [ofL_take,ofL_drop,if_true] at HSM HSR HSB;clear hi hcut;obtain ⟨bx,hbx⟩:∃ bx,wordB (s.extract 0 k)=bx:=⟨_,rfl⟩;have HBX:=aH hbx;clear hbx;obtain ⟨by_,hby⟩:∃ by_,wordB (s.extract (k + 2) s.size)=by_:=⟨_,rfl⟩;have HBY:=aH hby;clear hby;have hx:(s.extract 0 k).size<=maxLen:=(by simp [maxLen];omega);have hy:(s.extract (k + 2) s.size).size<=maxLen:=(by simp [maxLen];omega);have HX:=aH hx;have HY:=aH hy;clear hx hy;go_upto_region 5 with fail
    cases bx
    ·
     skip
     refine wp_region_quiet_lit (by kernel_rfl) (by kernel_rfl) ?_;repeat (go_big_quiet_step ((go_at_call 71;with_reducible exact Calls.quiet_of_same (rword_is _ HX.o _ HBX.o _))))
     refine wpQuiet_nil ?_;intro _ hw';obtain ⟨nq,hw''⟩:=hw';subst hw'';go_wp2
     go_ret3
     exact ⟨by rw [HSM.o,HSR.o,HSB.o,HBX.o];rfl,below_drewN (Below.refl _ _) _⟩
    ·
     skip
     refine wp_region_quiet_lit (by kernel_rfl) (by kernel_rfl) ?_;repeat (go_big_quiet_step (first | (go_at_call 71;with_reducible exact Calls.quiet_of_same (rword_is _ HX.o _ HBX.o _)) | (go_at_call 71;with_reducible exact Calls.quiet_of_same (rword_is _ HY.o _ HBY.o _))))
     refine wpQuiet_nil ?_;intro _ hw';obtain ⟨nq,hw''⟩:=hw';subst hw'';go_wp2
     go_ret3
     exact ⟨by rw [HSM.o,HSR.o,HSB.o,HBX.o,HBY.o];rfl,below_drewN (Below.refl _ _) _⟩
  ·
   have hi:=Lib.past s sep k HA.o (by decide) (by show s.size < k + 2;omega);have hcut:=cutS_no (s:=s) hi;rw [hcut] at HSM HSR HSB;have hs2:s.size<=maxLen:=(by unfold maxLen;omega);have HS:=aH hs2;clear hi hcut hs2;go_wp2_with fail;refine (rword_any s HS.o _).mono ?_;rintro e w1 ⟨rfl,rfl⟩;go_wp2
   go_ret3
   exact ⟨by rw [HSM.o,HSR.o,HSB.o];rfl,Below.refl _ _⟩
abbrev Rv:=Int × Int × Bool
def offB (mod nm:ByteArray):Bool:=!(mod.toList == []) && !(nm.toList == mod.toList)
def resF (l:List Md) (mod name:ByteArray):List Int->Rv
 | []=>(0,0,false)
 | k :: r=>match l[k.toNat]? with
  | none=>(0,0,false)
  | some m=>if offB mod m.nm=true then resF l mod name r else if 0<=ruleN m name then (k,ruleN m name,true) else resF l mod name r
theorem resF_cons {l:List Md} {mod name:ByteArray} {j:Nat} {m:Md} {r:List Int} (hm:l[j]?=some m):resF l mod name ((j:Int) :: r)=if offB mod m.nm=true then resF l mod name r else if 0<=ruleN m name then ((j:Int),ruleN m name,true) else resF l mod name r:=by
 conv=>lhs;unfold resF
 rw [Int.toNat_natCast,hm]
def resO (l:List Md) (i:Int) (ref:ByteArray):Rv :=
 if splitB ref=true/\0<=i/\i < l.length then (match l[i.toNat]? with
  | none=>(0,0,false)
  | some m=>resF l (splitM ref) (splitR ref) (seenL l m i))
 else (0,0,false)
def rvV (r:Rv):Value:=.tuple #[.int .i64 r.1,.int .i64 r.2.1,.bool r.2.2]
def Few (l:List Md):Prop:=(l.length:Int)<=1000000/\∀ m ∈ l,(m.im.length:Int)<=1000/\(m.ru.length:Int)<=1000000
end Go.Proofs.Ythddifjhoniacaa
