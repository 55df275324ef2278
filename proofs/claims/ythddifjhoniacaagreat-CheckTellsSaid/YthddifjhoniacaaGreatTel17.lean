import Derived.Test.YthddifjhoniacaaGreatAw17
import Derived.Test.YthddifjhoniacaaGreatCq
namespace Go.Proofs.YthddifjhoniacaaGreat
set_option linter.unusedVariables false
open Go.RowKit Go.Sort
set_option maxRecDepth 1000000 in
set_option maxHeartbeats 6400000 in
theorem tel17_walk (l:List ByteArray) (ao:Option Addr) (cap:Nat) (s:ByteArray) (w:World) (hl:gI w ao l):Calls Tryz.prog 4 #[.slice ao l.length cap,.string s] w fun e w'=>e=.returned (.bool true)/\Below w.heap.size w w':=by
 have HJD:=aH (VL l ao cap s w hl);obtain ⟨R,hR⟩:∃ R,lM l s=R:=⟨_,rfl⟩;have HR:=aH hR;rw [hR] at HJD;obtain ⟨nl,hnl⟩:∃ n,l.length=n:=⟨_,rfl⟩;rw [hnl] at HJD;rw [hnl];clear hl hR hnl;go_enter Tryz.func4,Tryz.ntmps4;go_wp2_with fail;refine HJD.o.mono ?_;rintro e w2 ⟨hE,hb2⟩;have HB2:=aH hb2;clear hb2 HJD
 cases R with
 | none =>
  have hE':e=.returned (.tuple #[.agg #[.slice none 0 0,.slice none 0 0,.slice none 0 0,.slice none 0 0,.int .i64 0],.bool false]):=hE;subst hE';have hbl:Below w2.heap.size w2 (w2.alloc (.cells #[.slice none 0 0,.slice none 0 0,.slice none 0 0,.slice none 0 0,.int .i64 0] 27)):=bA _;have HB3:=aH (HB2.o.trans (hbl.mono HB2.o.size));clear hbl hE;go_upto_region 2 with fail;generalize w2.alloc (.cells #[.slice none 0 0,.slice none 0 0,.slice none 0 0,.slice none 0 0,.int .i64 0] 27)=w3 at *;go_wp2_with fail;refine (awake17_any w3).mono ?_;rintro e w4 ⟨he,hb4⟩;subst he;have HB4:=aH (HB3.o.trans (hb4.mono HB3.o.size));clear hb4;go_wp2;go_ret;exact ⟨rfl,HB4.o⟩
 | some gr =>
  obtain ⟨a,he,hG⟩:∃ a,e=.returned (.tuple #[grv gr a,.bool true])/\dG w2 gr a:=hE;subst he;have hg:Good gr:=eG HR.o;have har:=lN HR.o;have hwa:=Dq HR.o;have hbl:Below w2.heap.size w2 (w2.alloc (.cells #[.slice a.mo gr.ms.length a.mc,.slice a.no gr.ns.length a.nc,.slice a.ho gr.hs.length a.hc,.slice a.wo gr.ws.length a.wc,.int .i64 gr.st] 27)):=bA _;have HB3:=aH (HB2.o.trans (hbl.mono HB2.o.size));have HG3:=aH (hG.below hbl);have HO3:=aH (Own.fresh w2 27 [.slice a.mo gr.ms.length a.mc,.slice a.no gr.ns.length a.nc,.slice a.ho gr.hs.length a.hc,.slice a.wo gr.ws.length a.wc,.int .i64 gr.st]);have HN:=aH (fun W (h:dG W gr a)=>A4C gr a hg har hwa W h);have HM:=aH (fun W (h:dG W gr a)=>KM gr a hg har hwa W h);obtain ⟨c0,c1,c2,c3,hcv⟩:=A6x gr;rw [hcv] at HN HM;unfold grv;unfold grv at HN HM;obtain ⟨nn,nh,nms,nw,hnn,hnh,hnms,hnw⟩:=nG gr;simp only [hnn,hnh,hnms,hnw] at HB3 HG3 HO3 HN HM hbl;rw [hnn,hnh,hnms,hnw];clear hnn hnh hnms hnw hG hg hbl har hwa hcv;go_upto_region 2 with fail;obtain ⟨B,hB⟩:∃ B,w2.heap.size=B:=⟨_,rfl⟩;rw [hB] at HO3;generalize w2.alloc (.cells #[.slice a.mo nms a.mc,.slice a.no nn a.nc,.slice a.ho nh a.hc,.slice a.wo nw a.wc,.int .i64 gr.st] 27)=w3 at *;try rw [hB]
  clear hB HB2;have CAW:=aH (fun (dq:Nat) (os:Array Obj)=>awake17_any (grow (redrawn w3 dq) os));have CN:=aH (fun (dq:Nat) (os:Array Obj)=>HN.o (grow (redrawn w3 dq) os) (HG3.o.below (below_regrown w3 dq os)));have CM:=aH (fun (dq:Nat) (os:Array Obj)=>HM.o (grow (redrawn w3 dq) os) (HG3.o.below (below_regrown w3 dq os)));obtain ⟨g0,g1,g2,g3,g4,gl⟩:=oG HO3.o;have g0':=cell_regrown g0;have g1':=cell_regrown g1;have g2':=cell_regrown g2;have g3':=cell_regrown g3;have g4':=cell_regrown g4;clear HN HM;go_upto_region 4 with fail;refine wp_region_quiet_below (by kernel_rfl) (by kernel_rfl) ?_
  repeat (go_big_quiet_step (first
   | (go_at_call 12;with_reducible exact Calls.regrown_of (CAW.o _ _))
   | (go_at_call 13;with_reducible exact Calls.regrown_of (CN.o _ _))
   | (go_at_call 14;with_reducible exact Calls.regrown_of (CM.o _ _))))
  refine wpQuiet_nil ?_;intro _ hw';obtain ⟨⟨dq,osq⟩,hw''⟩:=hw';subst hw'';go_wp2;go_ret;exact ⟨rfl,HB3.o.trans ((below_regrown w3 dq osq).mono HB3.o.size)⟩
end Go.Proofs.YthddifjhoniacaaGreat
