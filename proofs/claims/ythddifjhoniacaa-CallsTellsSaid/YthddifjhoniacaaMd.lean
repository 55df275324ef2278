import Derived.Test.YthddifjhoniacaaIa
import Derived.Test.YthddifjhoniacaaIj
namespace Go.Proofs.Ythddifjhoniacaa
set_option linter.unusedVariables false
open Go.RowKit Go.Sort
def goodB (gr:Gj):Bool:=decide (gr.ns.length<=160) && gr.ns.all (fun x=>decide (x.ks.length<=90001) && x.ks.all (fun k=>decide (k < gr.ns.length)) && (x.op != 11 || (decide (0<=x.tg) && (match gr.hs[x.tg.toNat]? with
 | some h=>decide (h.bo < gr.ns.length)
 | none=>false))))
theorem goodG_of {gr:Gj} (h:goodB gr=true):Good gr:=by
 unfold goodB at h;rw [Bool.and_eq_true,List.all_eq_true] at h;obtain ⟨h1,h2⟩:=h;refine ⟨of_decide_eq_true h1,fun x hx=>?_,fun x hx k hk=>?_,fun x hx h11=>?_⟩
 · have:=h2 x hx;rw [Bool.and_eq_true,Bool.and_eq_true] at this;exact of_decide_eq_true this.1.1
 · have:=h2 x hx;rw [Bool.and_eq_true,Bool.and_eq_true,List.all_eq_true] at this;exact of_decide_eq_true (this.1.2 k hk)
 ·
  have:=h2 x hx;rw [Bool.and_eq_true,h11] at this;have h3:=this.2;rw [show ((11:Int) != 11)=false from rfl,Bool.false_or,Bool.and_eq_true] at h3;obtain ⟨h4,h5⟩:=h3;have h6:=of_decide_eq_true h4;refine ⟨x.tg.toNat,?_⟩
  cases hh:gr.hs[x.tg.toNat]? with
  | none=>rw [hh] at h5;cases h5
  | some h=>rw [hh] at h5;exact ⟨h,by omega,rfl,of_decide_eq_true h5⟩
theorem mini_good:Good miniG:=goodG_of (by kernel_rfl)
set_option maxHeartbeats 1600000 in
theorem intsat_any (v u:Value) (L:List Int) (B C:Nat) (hn:(L.length:Int)<=1000) (w:World) (hv:IntsAt w B v L) (hu:IntsAt w C u L) :
  Calls Try.prog 10 #[v,u] w fun e w'=>e=.returned (.bool true)/\Below w.heap.size w w':=by
 obtain ⟨ao,ca,rfl,hca,hA⟩:=hv;obtain ⟨bo,cb,rfl,hcb,hC⟩:=hu;have HA:=aH hA;have HC:=aH hC;clear hA hC;obtain ⟨n,hnn⟩:∃ n,L.length=n:=⟨_,rfl⟩;rw [hnn] at hn HA HC hca hcb ⊢;clear hnn;go_enter Try.func10,Try.ntmps10;go_wp2_with fail
 go_loopw [4,5] (fun b4 b5 wr=>∃ k m:Nat,b4=.bool false/\b5=.int .i64 (k:Int)/\(k:Int)<=n/\wr=w.drewN m)
  (fun _ b5 _=>n - (intOf b5).toNat)
 case atStart=>exact ⟨0,0,rfl,rfl,by omega,rfl⟩
 case round =>
  obtain ⟨k,m,rfl,rfl,hk2,rfl⟩:=hrel;have hw1:IntKind.i64.wrap ((k:Int) + 1)=(k:Int) + 1:=wI;by_cases h1:(k:Int) < n
  ·
   obtain ⟨g,off,rfl,hg1,_,c1⟩:=HA.o k (by omega);obtain ⟨g',off',rfl,hg2,_,c2⟩:=HC.o k (by omega);clear HA HC;go_wp2_with fail;go_quiet (fail);go_wp2
   go_roundw
   case rel=>exact ⟨k + 1,m + nq,rfl,by go_num,by omega,rfl⟩
   case measure=>simp [intOf];omega
  · clear HA HC;go_wp2;go_ret;exact ⟨rfl,below_drewN (Below.refl _ _) m⟩
theorem IntsAt.new (W:World) (L:List Int):IntsAt (W.alloc (.cells (L.map (Value.int .i64)).toArray 3)) W.heap.size (.slice (some ⟨W.heap.size,0,none⟩) L.length L.length) L:=by refine ⟨_,_,rfl,Nat.le_refl _,fun j hj=>⟨W.heap.size,0,rfl,by simp,Nat.le_refl _,?_⟩⟩;have h:=(Own.fresh W 3 (L.map (Value.int .i64))).cell j;rw [Nat.zero_add,h,List.getElem?_map,aG hj,List.getD_eq_getElem?_getD,aG hj];rfl
end Go.Proofs.Ythddifjhoniacaa
