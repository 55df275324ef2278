import Derived.Test.YthddifjhoniacaaMa
import Derived.Test.YthddifjhoniacaaHu
import Derived.Deep.CutBlock
namespace Go.Proofs.Ythddifjhoniacaa
set_option linter.unusedVariables false
open Go.RowKit Go.Sort
structure Lay (E p u l m C:Nat):Prop where
 ep:E<=p
 em:E<=m
 pm:p ≠ m
 up:u ≠ p
 um:u ≠ m
 lp:l ≠ p
 lm:l ≠ m
 pc:p < C
 mc:m < C
def fdrow (gr:Gj) (a:Gv) (u l m:Nat) (v:Value):List Value:=[.slice a.mo gr.ms.length a.mc,.slice a.no gr.ns.length a.nc,.slice a.ho gr.hs.length a.hc,.slice a.wo gr.ws.length a.wc,.int .i64 gr.st,.slice (some ⟨u,0,none⟩) gr.ns.length gr.ns.length,.slice (some ⟨l,0,none⟩) gr.ns.length gr.ns.length,.slice (some ⟨m,0,none⟩) gr.ns.length gr.ns.length,v]
structure Fd (T:TypeId) (w:World) (E p u l m C:Nat) (gr:Gj) (a:Gv) (s:Fst) (v:Value):Prop where
 lay:Lay E p u l m C
 own:Own w p T (fdrow gr a u l m v)
 nu:Own w u 4 (rowB (nulG gr) gr.ns.length)
 le:Own w l 4 (rowB (ledG gr) gr.ns.length)
 me:Own w m 4 (rowB s.1 gr.ns.length)
 fo:IntsAt w C v s.2
 hg:HasGR w (fun b=>b < E) gr a
 len:s.2.length + lackB s.1 gr.ns.length<=gr.ns.length
 sz:C<=w.heap.size
theorem Fd.below {T:TypeId} {w w':World} {E p u l m C:Nat} {gr:Gj} {a:Gv} {s:Fst} {v:Value} (h:Fd T w E p u l m C gr a s v) (hb:Below w.heap.size w w'):Fd T w' E p u l m C gr a s v :=
 ⟨h.lay,h.own.under hb h.own.lt,h.nu.under hb h.nu.lt,h.le.under hb h.le.lt,h.me.under hb h.me.lt,h.fo.below hb,h.hg.below hb,h.len,Nat.le_trans h.sz hb.size⟩
theorem Fd.met {T:TypeId} {w:World} {E p u l m C:Nat} {gr:Gj} {a:Gv} {s:Fst} {v:Value} (h:Fd T w E p u l m C gr a s v) {n:Nat} (hn:n < gr.ns.length) (hm:s.1 n=false):Fd T (w.setCell ⟨m,n,none⟩ (.bool true)) E p u l m C gr a (setB s.1 n,s.2) v:=by have hb:But (fun j=>j=m) w (w.setCell ⟨m,n,none⟩ (.bool true)):=But.put w m n _;have h1:=lackB_set s.1 n hm gr.ns.length;have h2:=lackB_one s.1 n hm gr.ns.length hn;rw [if_pos hn] at h1;exact ⟨h.lay,h.own.but hb h.lay.pm,h.nu.but hb h.lay.um,h.le.but hb h.lay.lm,by rw [<- rowB_set s.1 gr.ns.length n hn];exact h.me.put n (.bool true),h.fo.but hb (fun b hc _ e=>by have e:b=m:=e;have:=h.lay.mc;omega),h.hg.but hb (fun j _ hj e=>by have e:j=m:=e;have:=h.lay.em;omega),by show s.2.length + lackB (setB s.1 n) gr.ns.length<=gr.ns.length;have:=h.len;omega,Nat.le_trans h.sz hb.size⟩
theorem Fd.found {T:TypeId} {w:World} {E p u l m C:Nat} {gr:Gj} {a:Gv} {s:Fst} {v v':Value} {F:List Int} (h:Fd T w E p u l m C gr a s v) (hf:IntsAt w C v' F) (hl:F.length + lackB s.1 gr.ns.length<=gr.ns.length):Fd T (w.setCell ⟨p,8,none⟩ v') E p u l m C gr a (s.1,F) v':=by have hb:But (fun j=>j=p) w (w.setCell ⟨p,8,none⟩ v'):=But.put w p 8 _;exact ⟨h.lay,h.own.put 8 v',h.nu.but hb h.lay.up,h.le.but hb h.lay.lp,h.me.but hb (fun e=>h.lay.pm e.symm),hf.but hb (fun b hc _ e=>by have e:b=p:=e;have:=h.lay.pc;omega),h.hg.but hb (fun j _ hj e=>by have e:j=p:=e;have:=h.lay.ep;omega),hl,Nat.le_trans h.sz hb.size⟩
theorem visF_go {gr:Gj} {d n:Nat} {s:Fst} (h:s.1 n=false):visF gr (d + 1) n s=eachF (visF gr d) (nextL gr n) (setB s.1 n,if termB gr n=true then putL s.2 (n:Int) else s.2):=by rw [visF];exact if_neg (by rw [h];decide)
def FdE (T:TypeId) (w:World) (E p u l m C:Nat) (gr:Gj) (a:Gv) (s:Fst) (e:Ending) (w':World):Prop:=e=.returned (.tuple #[])/\(∃ v,Fd T w' E p u l m C gr a s v)/\But (fun b=>b=p\/b=m) w w'
theorem termB_eq {gr:Gj} {n:Nat} {x:Nj} (hx:gr.ns[n]?=some x):termB gr n=(if x.op=11\/x.op=9\/x.op=10 then false else x.ks.isEmpty || ((x.op == 4 || x.op == 5) && !ledG gr n)):=by unfold termB;rw [hx]
theorem nextL_eq {gr:Gj} {n:Nat} {x:Nj} (hx:gr.ns[n]?=some x):nextL gr n=(if x.op=11 then [bodyG gr n] else if x.op=9\/x.op=10 then [] else if (x.ks.isEmpty || ((x.op == 4 || x.op == 5) && !ledG gr n))=true then [] else if x.op=4 then frontL (nulG gr) x.ks else x.ks):=by unfold nextL;rw [hx]
theorem isEmpty_len {α:Type} (L:List α):L.isEmpty=decide ((L.length:Int)=0):=by
 cases L with
 | nil=>rfl
 | cons x r=>simp;omega
def LeE (gr:Gj) (L:List Int) (w:World) (e:Ending) (w':World):Prop:=∃ v,e=.returned v/\IntsAt w' w.heap.size v L/\Below w.heap.size w w'
def leadI (gr:Gj) (n:Int):List Int:=if 0<=n/\n < (gr.ns.length:Int) then leadG gr n.toNat else []
theorem tkG {P:Program} {ops:Array Oper} {Q:Exit->Act->World->Prop} {md:Region.Mode} {S:World->Prop} (i:Nat) {oi:Oper} (v:Value) {fuel:Nat} {listed:Array Bool} {a:Act} {w:World} (hi:ops[i]?=some oi) (hS:S w) (hw:Region.wanted oi (yielded ops a.tmps)=true) (hy:∀ u,S u->(execOp a.eval oi).run P u=.ok (.value v) u)
  (h:wpAnyH P md ops Q S fuel (listed.setIfInBounds i true) (a.put oi.dst v) w) (hs:Region.noSelect ops=true:=by kernel_rfl) (hf:Region.free md ops listed i=true:=by kernel_rfl) (hr:(Region.ready md ops listed).contains i=true:=by kernel_rfl)
  (hQ:∀ c a w,Q (.panic c) (a.put oi.dst v) w->Q (.panic c) a w:=by exact fun _ _ _ h=>h):wpAnyH P md ops Q S (fuel + 1) listed a w :=
 wpAnyH_take hi hs hf hr hQ (Or.inl ⟨hw,hy⟩) hS h
