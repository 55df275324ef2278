import Derived.Test.YthkdnehgamefiaaJy
import Derived.Deep.CutBlock
namespace Go.Proofs.Ythkdnehgamefiaa
set_option linter.unusedVariables false
open Go.RowKit Go.Sort
def Okm (m:Md):Prop:=Wel m/\m.im.length<=4/\m.ru.length<=24
theorem yG {l:List ByteArray} {ML:List Md} (h:mX l=some ML):(∀ m ∈ ML,Okm m)/\ML.length<=5:=by obtain ⟨h1,h2,h3⟩:=KD h;exact ⟨fun m hm=>⟨Vg h m hm,h3 m hm⟩,(qW h).2⟩
theorem GI:∀ (ML:List Md) (s:Nat),(kU ML s).length=ML.length
 | [],s=>rfl
 | m :: r,s=>by unfold kU;simp [GI r]
theorem B0G (ML:List Md) (m:Md) (r:List Md) (i s:Nat) (F:Option Ft3):hd1 ML (m :: r) i s F=hd1 ML r (i + 1) (s + m.ru.length) (orF (orF F (hdE ML i m)) (if 24 < s + m.ru.length then some (3,(i:Int),-1) else none)):=rfl
theorem B0H (ML:List Md) (m:Md) (r:List Md) (i:Nat) (F:Option Ft3):hd2 ML (m :: r) i F=hd2 ML r (i + 1) (imF ML i m.im F):=rfl
theorem B0P (ML:List Md) (i:Nat) (x:ByteArray) (r:List ByteArray) (F:Option Ft3):imF ML i (x :: r) F=imF ML i r (if cB ML x < 0 then orF F (some (5,(i:Int),-1)) else F):=rfl
theorem A0t (F:Option Ft3):orF F none=F:=by cases F <;> rfl
def set5 (w:World) (g:Nat) (u0 u1 u2 u3 u4:Value):World:=((((w.setCell ⟨g,0,none⟩ u0).setCell ⟨g,1,none⟩ u1).setCell ⟨g,2,none⟩ u2).setCell ⟨g,3,none⟩ u3).setCell ⟨g,4,none⟩ u4
theorem eD (w:World) (g:Nat) (u0 u1 u2 u3 u4:Value):((((w.setCell ⟨g,0,none⟩ u0).setCell ⟨g,1,none⟩ u1).setCell ⟨g,2,none⟩ u2).setCell ⟨g,3,none⟩ u3).setCell ⟨g,4,none⟩ u4=set5 w g u0 u1 u2 u3 u4:=rfl
theorem Own.put5 {w:World} {g:Nat} {t:TypeId} {v0 v1 v2 v3 v4:Value} (h:Own w g t [v0,v1,v2,v3,v4]) (u0 u1 u2 u3 u4:Value):Own (set5 w g u0 u1 u2 u3 u4) g t [u0,u1,u2,u3,u4]:=((((h.put 0 u0).put 1 u1).put 2 u2).put 3 u3).put 4 u4
theorem But.set5 (w:World) (g:Nat) (u0 u1 u2 u3 u4:Value):But (fun j=>j=g) w (set5 w g u0 u1 u2 u3 u4) :=
 (((((But.refl (fun j=>j=g) w).setCell (p:=⟨g,0,none⟩) (fun _=>rfl) _).setCell (p:=⟨g,1,none⟩) (fun _=>rfl) _).setCell (p:=⟨g,2,none⟩) (fun _=>rfl) _).setCell (p:=⟨g,3,none⟩) (fun _=>rfl) _).setCell (p:=⟨g,4,none⟩) (fun _=>rfl) _
structure Gv where
 mo:Option Addr
 no:Option Addr
 ho:Option Addr
 wo:Option Addr
 mc:Nat
 nc:Nat
 hc:Nat
 wc:Nat
def grv (gr:Gj) (a:Gv):Value:=.agg #[.slice a.mo gr.ms.length a.mc,.slice a.no gr.ns.length a.nc,.slice a.ho gr.hs.length a.hc,.slice a.wo gr.ws.length a.wc,.int .i64 gr.st]
def DZ (w:World) (R:Nat->Prop) (no:Option Addr) (ns:List Nj):Prop:=∀ (k:Nat) (x:Nj),ns[k]?=some x->∃ b off ko kc,no=some ⟨b,off,none⟩/\b < w.heap.size/\(R b/\x.ks.length<=kc) ∧
 w.cell? ⟨b,off + k * 10,none⟩=some (.int .i64 x.op)/\w.cell? ⟨b,off + k * 10 + 1,none⟩=some (.string x.tx)/\w.cell? ⟨b,off + k * 10 + 2,none⟩=some (.int .u64 x.s0)/\w.cell? ⟨b,off + k * 10 + 3,none⟩=some (.int .u64 x.s1) ∧
 w.cell? ⟨b,off + k * 10 + 4,none⟩=some (.int .u64 x.s2)/\w.cell? ⟨b,off + k * 10 + 5,none⟩=some (.int .u64 x.s3)/\w.cell? ⟨b,off + k * 10 + 6,none⟩=some (.slice ko x.ks.length kc)/\w.cell? ⟨b,off + k * 10 + 7,none⟩=some (.int .i64 x.tg) ∧
 w.cell? ⟨b,off + k * 10 + 8,none⟩=some (.int .i64 (x.mo:Int))/\w.cell? ⟨b,off + k * 10 + 9,none⟩=some (.int .i64 x.ru)/\nC w R ko x.ks
theorem DZ.but {S R:Nat->Prop} {w w':World} {no:Option Addr} {ns:List Nj} (h:DZ w R no ns) (hb:But S w w') (hS:∀ j,j < w.heap.size->R j->¬ S j):DZ w' R no ns:=fun k x hx=>by obtain ⟨b,off,ko,kc,e,hlt,hr,c0,c1,c2,c3,c4,c5,c6,c7,c8,c9,hk⟩:=h k x hx;have hn:=hS b hlt hr.1;exact ⟨b,off,ko,kc,e,aL hlt hb.size,hr,hb.cell hn c0,hb.cell hn c1,hb.cell hn c2,hb.cell hn c3,hb.cell hn c4,hb.cell hn c5,hb.cell hn c6,hb.cell hn c7,hb.cell hn c8,hb.cell hn c9,hk.but hb hS⟩
theorem DZ.mono {R T:Nat->Prop} {w:World} {no:Option Addr} {ns:List Nj} (h:DZ w R no ns) (hR:∀ b,b < w.heap.size->R b->T b):DZ w T no ns:=fun k x hx=>by obtain ⟨b,off,ko,kc,e,hlt,hr,c0,c1,c2,c3,c4,c5,c6,c7,c8,c9,hk⟩:=h k x hx;exact ⟨b,off,ko,kc,e,hlt,⟨hR b hlt hr.1,hr.2⟩,c0,c1,c2,c3,c4,c5,c6,c7,c8,c9,hk.mono hR⟩
def DY (w:World) (R:Nat->Prop) (ho:Option Addr) (hs:List Hj):Prop:=∀ (k:Nat) (x:Hj),hs[k]?=some x->∃ b off,ho=some ⟨b,off,none⟩/\b < w.heap.size/\R b ∧
 w.cell? ⟨b,off + k * 3,none⟩=some (.int .i64 (x.mo:Int))/\w.cell? ⟨b,off + k * 3 + 1,none⟩=some (.string x.nm)/\w.cell? ⟨b,off + k * 3 + 2,none⟩=some (.int .i64 (x.bo:Int))
theorem DY.but {S R:Nat->Prop} {w w':World} {ho:Option Addr} {hs:List Hj} (h:DY w R ho hs) (hb:But S w w') (hS:∀ j,j < w.heap.size->R j->¬ S j):DY w' R ho hs:=fun k x hx=>by obtain ⟨b,off,e,hlt,hr,c0,c1,c2⟩:=h k x hx;have hn:=hS b hlt hr;exact ⟨b,off,e,aL hlt hb.size,hr,hb.cell hn c0,hb.cell hn c1,hb.cell hn c2⟩
theorem DY.mono {R T:Nat->Prop} {w:World} {ho:Option Addr} {hs:List Hj} (h:DY w R ho hs) (hR:∀ b,b < w.heap.size->R b->T b):DY w T ho hs:=fun k x hx=>by obtain ⟨b,off,e,hlt,hr,c0,c1,c2⟩:=h k x hx;exact ⟨b,off,e,hlt,hR b hlt hr,c0,c1,c2⟩
def Zp (w:World) (R:Nat->Prop) (ao:Option Addr) (L:List Int):Prop:=∀ (k:Nat) (x:Int),L[k]?=some x->∃ b off,ao=some ⟨b,off,none⟩/\b < w.heap.size/\R b/\w.cell? ⟨b,off + k,none⟩=some (.int .i64 x)
theorem Zp.but {S R:Nat->Prop} {w w':World} {ao:Option Addr} {L:List Int} (h:Zp w R ao L) (hb:But S w w') (hS:∀ j,j < w.heap.size->R j->¬ S j):Zp w' R ao L:=fun k x hx=>by obtain ⟨b,off,e,hlt,hr,c⟩:=h k x hx;exact ⟨b,off,e,aL hlt hb.size,hr,hb.cell (hS b hlt hr) c⟩
theorem Zp.mono {R T:Nat->Prop} {w:World} {ao:Option Addr} {L:List Int} (h:Zp w R ao L) (hR:∀ b,b < w.heap.size->R b->T b):Zp w T ao L:=fun k x hx=>by obtain ⟨b,off,e,hlt,hr,c⟩:=h k x hx;exact ⟨b,off,e,hlt,hR b hlt hr,c⟩
theorem B0E {S:Nat->Prop} {w:World} {ao:Option Addr} {n c:Nat} {L:List Int} (h:Win S 3 1 w (.slice ao n c) n (L.map (Value.int .i64))):Zp w S ao L:=fun k x hx=>by
 have hk:k < L.length:=(aS.1 hx).1;have hn:L.length=n:=by have:=h.1;simpa using this
 obtain ⟨ao',cap,e1,h1,h2,hf⟩:=h.form;injection e1 with e1 e2 e3;subst e1;obtain ⟨g,off,e,hs,hg,hc,_⟩:=hf k (by omega);exact ⟨g,off,e,hg,hs,by rw [hc,List.getElem?_map,hx];rfl⟩
def mG (w:World) (R:Nat->Prop) (gr:Gj) (a:Gv):Prop:=DZ w R a.no gr.ns/\DY w R a.ho gr.hs/\Zp w R a.wo gr.ws/\nJ w R a.mo gr.ms
theorem mG.but {S R:Nat->Prop} {w w':World} {gr:Gj} {a:Gv} (h:mG w R gr a) (hb:But S w w') (hS:∀ j,j < w.heap.size->R j->¬ S j):mG w' R gr a:=⟨h.1.but hb hS,h.2.1.but hb hS,h.2.2.1.but hb hS,h.2.2.2.but hb hS⟩
theorem mG.mono {R T:Nat->Prop} {w:World} {gr:Gj} {a:Gv} (h:mG w R gr a) (hR:∀ b,b < w.heap.size->R b->T b):mG w T gr a:=⟨h.1.mono hR,h.2.1.mono hR,h.2.2.1.mono hR,h.2.2.2.mono hR⟩
abbrev dG (w:World) (gr:Gj) (a:Gv):Prop:=mG w (fun _=>True) gr a
theorem mG.below {R:Nat->Prop} {w w':World} {gr:Gj} {a:Gv} (h:mG w R gr a) (hb:Below w.heap.size w w'):mG w' R gr a:=h.but (S:=fun _=>False) (But.of_below hb) fun _ _ _ h=>h
def JoE (D:Nat) (r:Except Ft3 Gj) (e:Ending) (w':World):Prop:=match r with
 | .ok gr=>∃ a,e=.returned (.tuple #[grv gr a,.agg #[.int .i64 0,.int .i64 0,.int .i64 0,.int .i64 0]])/\mG w' (fun b=>D<=b) gr a
 | .error f=>e=.returned (.tuple #[.agg #[.slice none 0 0,.slice none 0 0,.slice none 0 0,.slice none 0 0,.int .i64 0],.agg #[.int .i64 f.1,.int .i64 0,.int .i64 f.2.1,.int .i64 f.2.2]])/\f.1 ≠ 0
def mO (ms:List ByteArray) (hs:List Hj) (ws:List Int) (FL:List Nat):Rw
 | 1=>(ms.length,ms.map Value.string)
 | 3=>(hs.length,hs.flatMap zD)
 | 4=>(ws.length,ws.map (Value.int .i64))
 | 5=>(FL.length,lD FL)
 | _=>(0,[])
theorem B6R (ms:List ByteArray) (hs:List Hj) (ws:List Int) (FL:List Nat) (x:ByteArray):∀ k,upd (mO ms hs ws FL) 1 ((mO ms hs ws FL 1).1 + 1,(mO ms hs ws FL 1).2 ++ [Value.string x]) k=mO (ms ++ [x]) hs ws FL k
 | 0=>rfl
 | 1=>by rw [upd_same];show (ms.length + 1,ms.map Value.string ++ [Value.string x])=((ms ++ [x]).length,(ms ++ [x]).map Value.string);simp
 | 2=>rfl
 | 3=>rfl
 | 4=>rfl
 | 5=>rfl
 | _ + 6=>rfl
theorem B6S (ms:List ByteArray) (hs:List Hj) (ws:List Int) (FL:List Nat) (x:Hj):∀ k,upd (mO ms hs ws FL) 3 ((mO ms hs ws FL 3).1 + 1,(mO ms hs ws FL 3).2 ++ zD x) k=mO ms (hs ++ [x]) ws FL k
 | 0=>rfl
 | 1=>rfl
 | 2=>rfl
 | 3=>by rw [upd_same];show (hs.length + 1,hs.flatMap zD ++ zD x)=((hs ++ [x]).length,(hs ++ [x]).flatMap zD);simp
 | 4=>rfl
 | 5=>rfl
 | _ + 6=>rfl
theorem B6T (ms:List ByteArray) (hs:List Hj) (ws:List Int) (FL:List Nat) (x:Int):∀ k,upd (mO ms hs ws FL) 4 ((mO ms hs ws FL 4).1 + 1,(mO ms hs ws FL 4).2 ++ [Value.int .i64 x]) k=mO ms hs (ws ++ [x]) FL k
 | 0=>rfl
 | 1=>rfl
 | 2=>rfl
 | 3=>rfl
 | 4=>by rw [upd_same];show (ws.length + 1,ws.map (Value.int .i64) ++ [Value.int .i64 x])=((ws ++ [x]).length,(ws ++ [x]).map (Value.int .i64));simp
 | 5=>rfl
 | _ + 6=>rfl
theorem A5U:∀ (ML:List Md) (s:Nat),(∀ m ∈ ML,m.ru.length<=24)->∀ x ∈ kU ML s,x<=s + 24 * ML.length
 | [],s,_,x,hx=>by unfold kU at hx;simp at hx
 | m :: r,s,h,x,hx=>by
  unfold kU at hx;have h1:=h m (List.mem_cons_self ..);rcases List.mem_cons.1 hx with rfl | hx
  · simp
  · have:=A5U r (s + m.ru.length) (fun y hy=>h y (List.mem_cons_of_mem _ hy)) x hx;rw [List.length_cons];omega
section
variable {w0 w w' w3 wq:World} {g:Nat} {c:Nat->Nat} {rows rows':Rw} {v:Nat->Value} {lv:Value} {st:Int} {F:Option Ft3} {N:List Nj}
end
theorem gB (w:World) (a:Gv) (gr:Gj):aQ (Below w.heap.size w (w.alloc (.cells #[.slice a.mo gr.ms.length a.mc,.slice a.no gr.ns.length a.nc,.slice a.ho gr.hs.length a.hc,.slice a.wo gr.ws.length a.wc,.int .i64 gr.st] 31))):=aH (bA _)
theorem gO (w:World) (a:Gv) (gr:Gj):aQ (Own (w.alloc (.cells #[.slice a.mo gr.ms.length a.mc,.slice a.no gr.ns.length a.nc,.slice a.ho gr.hs.length a.hc,.slice a.wo gr.ws.length a.wc,.int .i64 gr.st] 31)) w.heap.size 31 [.slice a.mo gr.ms.length a.mc,.slice a.no gr.ns.length a.nc,.slice a.ho gr.hs.length a.hc,.slice a.wo gr.ws.length a.wc,.int .i64 gr.st]):=aH (Own.fresh w 31 [.slice a.mo gr.ms.length a.mc,.slice a.no gr.ns.length a.nc,.slice a.ho gr.hs.length a.hc,.slice a.wo gr.ws.length a.wc,.int .i64 gr.st])
end Go.Proofs.Ythkdnehgamefiaa
