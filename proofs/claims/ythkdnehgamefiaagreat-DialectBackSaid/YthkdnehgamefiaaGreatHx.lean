import Derived.Test.YthkdnehgamefiaaGreatHv
namespace Go.Proofs.YthkdnehgamefiaaGreat
set_option linter.unusedVariables false
set_option maxRecDepth 1000000
open Go.RowKit Go.Sort
abbrev Zr:=ByteArray × Zx
def Fs (z:Zr):List Value:=.string z.1 :: iY z.2
theorem A6N:∀ (Z:List Zr) (k j:Nat) (z:Zr),Z[k]?=some z->j < 8->(Z.flatMap Fs)[k * 8 + j]?=(Fs z)[j]?
 | [],k,j,h,hk,hj=>by simp at hk
 | x :: L,0,j,h,hk,hj=>by simp at hk;subst hk;rw [List.flatMap_cons,List.getElem?_append_left (by show 0 * 8 + j < 8;omega),Nat.zero_mul,Nat.zero_add]
 | x :: L,k + 1,j,h,hk,hj=>by rw [List.flatMap_cons,List.getElem?_append_right (by show 8<=(k + 1) * 8 + j;omega),show (k + 1) * 8 + j - (Fs x).length=k * 8 + j by show (k + 1) * 8 + j - 8=_;omega];exact A6N L k j h (by simpa using hk) hj
def RB (G:Prop) (w:World) (D:Nat) (nv rv:Value) (RL:List (ByteArray × Ex)):Prop :=
 ∃ (S1 S2 R:Nat->Prop) (Z:List Zr) (n:Nat),(∀ b,S1 b\/S2 b\/R b->D<=b/\b < w.heap.size)/\(∀ b,R b->¬ S1 b/\¬ S2 b)/\(∀ b,S1 b->¬ S2 b)/\Z.map (fun z=>(z.1,z.2.1))=RL ∧
  Win S1 9 1 w nv Z.length (Z.map (fun z=>Value.string z.1))/\Win S2 51 8 w rv Z.length (Z.flatMap Fs)/\(G->∀ z ∈ Z,fM w R n z.2.2.1 z.2.1.kids)
theorem RB.start (G:Prop) (w:World) (D:Nat):RB G w D (.slice none 0 0) (.slice none 0 0) [] :=
 ⟨fun _=>False,fun _=>False,fun _=>False,[],0,(fun b h=>by rcases h with h | h | h <;> cases h),(fun b h=>by cases h),(fun b h=>by cases h),rfl,Win.nil _ _ _ _,Win.nil _ _ _ _,fun _ z hz=>absurd hz List.not_mem_nil⟩
theorem RB.keep {G:Prop} {w w':World} {D:Nat} {nv rv:Value} {RL:List (ByteArray × Ex)} {U:Nat->Prop} (h:RB G w D nv rv RL) (hb:But U w w') (hU:∀ b,U b->b < D):RB G w' D nv rv RL:=by
 obtain ⟨S1,S2,R,Z,n,h1,h2,h3,h4,h5,h6,h7⟩:=h;refine ⟨S1,S2,R,Z,n,fun b hb'=>⟨(h1 b hb').1,aL (h1 b hb').2 hb.size⟩,h2,h3,h4,h5.keep hb fun g _ hs hu=>?_,h6.keep hb fun g _ hs hu=>?_,fun hG z hz=>(h7 hG z hz).but hb fun g _ hr hu=>?_⟩
 · have:=hU g hu;have:=(h1 g (.inl hs)).1;omega
 · have:=hU g hu;have:=(h1 g (.inr (.inl hs))).1;omega
 · have:=hU g hu;have:=(h1 g (.inr (.inr hr))).1;omega
theorem RB.below {G:Prop} {w w':World} {D:Nat} {nv rv:Value} {RL:List (ByteArray × Ex)} (h:RB G w D nv rv RL) (hb:Below w.heap.size w w'):RB G w' D nv rv RL :=
 h.keep (U:=fun _=>False) (But.of_below hb) fun _ h=>h.elim
theorem RB.imp {G G':Prop} {w:World} {D:Nat} {nv rv:Value} {RL:List (ByteArray × Ex)} (h:RB G w D nv rv RL) (hG:G'->G):RB G' w D nv rv RL:=by obtain ⟨S1,S2,R,Z,n,h1,h2,h3,h4,h5,h6,h7⟩:=h;exact ⟨S1,S2,R,Z,n,h1,h2,h3,h4,h5,h6,fun g=>h7 (hG g)⟩
theorem RB.form {G:Prop} {w:World} {D:Nat} {nv rv:Value} {RL:List (ByteArray × Ex)} (h:RB G w D nv rv RL):(∃ no nc,nv=.slice no RL.length nc)/\∃ ro rc,rv=.slice ro RL.length rc:=by obtain ⟨S1,S2,R,Z,n,h1,h2,h3,rfl,h5,h6,h7⟩:=h;obtain ⟨no,nc,hv,-⟩:=h5.form;obtain ⟨ro,rc,hv2,-⟩:=h6.form;exact ⟨⟨no,nc,by rw [hv,List.length_map]⟩,⟨ro,rc,by rw [hv2,List.length_map]⟩⟩
theorem RB.add {G:Prop} {w0 w1 w2 w3 w4 w5:World} {D n n' g:Nat} {nv' rv':Value} {S1 S2 R:Nat->Prop} {Z:List Zr} {nm:ByteArray} {x:Ex} {ko:Option Addr} {kc:Nat} (hg:g < D) (hD:D<=w0.heap.size)
  (h1:∀ b,S1 b\/S2 b\/R b->D<=b/\b < w0.heap.size) (h2:∀ b,R b->¬ S1 b/\¬ S2 b) (h3:∀ b,S1 b->¬ S2 b) (h7:G->∀ z ∈ Z,fM w0 R n z.2.2.1 z.2.1.kids)
  (hb1:But (fun j=>j=g) w0 w1) (hE:G->dD w1 w0.heap.size n' ko x.kids) (hb2:Below w1.heap.size w1 w2)
  (hw3:Win (fun b=>S1 b\/w2.heap.size<=b) 9 1 w3 nv' (Z.length + 1) (Z.map (fun z=>Value.string z.1) ++ [.string nm])) (hb3:But S1 w2 w3) (hb4:Below w3.heap.size w3 w4)
  (hw5:Win (fun b=>S2 b\/w4.heap.size<=b) 51 8 w5 rv' (Z.length + 1) (Z.flatMap Fs ++ Fs (nm,x,ko,kc))) (hb5:But S2 w4 w5):RB G w5 D nv' rv' (Z.map (fun z=>(z.1,z.2.1)) ++ [(nm,x)]):=by
 have s1:=hb1.size;have s2:=hb2.size;have s3:=hb3.size;have s4:=hb4.size;have s5:=hb5.size
 have k15:∀ (Q:Nat->Prop) (m:Nat) (ao:Option Addr) (K:List Ex),(∀ b,Q b->¬ S1 b/\¬ S2 b)->fM w1 Q m ao K->fM w5 Q m ao K:=fun Q m ao K hq h =>
  (((h.but (But.of_below (S:=fun _=>False) hb2) fun _ _ _ h=>h).but hb3 fun j _ hj=>(hq j hj).1).but (But.of_below (S:=fun _=>False) hb4) fun _ _ _ h=>h).but hb5 fun j _ hj=>(hq j hj).2
 refine ⟨fun b=>(S1 b\/w2.heap.size<=b)/\b < w3.heap.size,fun b=>(S2 b\/w4.heap.size<=b)/\b < w5.heap.size,fun b=>R b\/(w0.heap.size<=b/\b < w1.heap.size),Z ++ [(nm,x,ko,kc)],max n n',?_,?_,?_,by simp,?_,?_,?_⟩
 ·
  intro b hb;rcases hb with ⟨hb | hb,hlt⟩ | ⟨hb | hb,hlt⟩ | hb | hb
  · have:=h1 b (.inl hb);omega
  · omega
  · have:=h1 b (.inr (.inl hb));omega
  · omega
  · have:=h1 b (.inr (.inr hb));omega
  · omega
 ·
  intro b hb;refine ⟨?_,?_⟩
  ·
   rintro ⟨hs,hlt⟩;rcases hb with hb | hb
   ·
    rcases hs with hs | hs
    · exact (h2 b hb).1 hs
    · have:=h1 b (.inr (.inr hb));omega
   ·
    rcases hs with hs | hs
    · have:=h1 b (.inl hs);omega
    · omega
  ·
   rintro ⟨hs,hlt⟩;rcases hb with hb | hb
   ·
    rcases hs with hs | hs
    · exact (h2 b hb).2 hs
    · have:=h1 b (.inr (.inr hb));omega
   ·
    rcases hs with hs | hs
    · have:=h1 b (.inr (.inl hs));omega
    · omega
 ·
  rintro b ⟨hs,hlt⟩ ⟨ht,hlt2⟩;rcases hs with hs | hs
  ·
   rcases ht with ht | ht
   · exact h3 b hs ht
   · have:=h1 b (.inl hs);omega
  ·
   rcases ht with ht | ht
   · have:=h1 b (.inr (.inl ht));omega
   · omega
 ·
  rw [List.length_append,List.map_append];refine Win.keep (T:=S2) ((hw3.mono fun b hb hs=>(⟨hs,hb⟩:(S1 b\/w2.heap.size<=b)/\b < w3.heap.size)).below hb4) hb5 fun b _ hs h2'=>?_;rcases hs.1 with hs' | hs'
  · exact h3 b hs' h2'
  · have:=h1 b (.inr (.inl h2'));omega
 ·
  rw [List.length_append,List.flatMap_append];have e:List.flatMap Fs [(nm,x,ko,kc)]=Fs (nm,x,ko,kc):=by simp
  rw [e];exact hw5.mono fun b hb hs=>⟨hs,hb⟩
 ·
  intro hG z hz;rw [List.mem_append,List.mem_singleton] at hz;rcases hz with hz | rfl
  · have q:=(h7 hG z hz).but hb1 fun j hj hr e=>(by have:=h1 j (.inr (.inr hr));omega);exact ((k15 R n _ _ h2 q).mono (fun b _ h=>.inl h)).upto _ (Nat.le_max_left _ _)
  · exact ((k15 _ n' _ _ (fun b hb=>⟨fun hs=>by have:=h1 b (.inl hs);omega,fun hs=>by have:=h1 b (.inr (.inl hs));omega⟩) (fM.ofE (hE hG))).mono (fun b _ h=>.inr h)).upto _ (Nat.le_max_right _ _)
def sN (w:World) (D n:Nat) (ro:Option Addr) (l:List (ByteArray × Ex)):Prop:=∀ k x,l[k]?=some x->∃ b off ko kc,ro=some ⟨b,off,none⟩/\b < w.heap.size/\D<=b/\w.cell? ⟨b,off + k * 8,none⟩=some (.string x.1) ∧
 w.cell? ⟨b,off + k * 8 + 1,none⟩=some (.int .i64 x.2.op)/\w.cell? ⟨b,off + k * 8 + 2,none⟩=some (.string x.2.text)/\w.cell? ⟨b,off + k * 8 + 3,none⟩=some (.int .u64 x.2.s0)/\w.cell? ⟨b,off + k * 8 + 4,none⟩=some (.int .u64 x.2.s1) ∧
 w.cell? ⟨b,off + k * 8 + 5,none⟩=some (.int .u64 x.2.s2)/\w.cell? ⟨b,off + k * 8 + 6,none⟩=some (.int .u64 x.2.s3)/\w.cell? ⟨b,off + k * 8 + 7,none⟩=some (.slice ko x.2.kids.length kc)/\dD w D n ko x.2.kids
theorem sN.but {S:Nat->Prop} {D n:Nat} {w w':World} {ro:Option Addr} {l:List (ByteArray × Ex)} (h:sN w D n ro l) (hb:But S w w') (hS:∀ j,S j->j < D):sN w' D n ro l:=fun k x hx=>by
 obtain ⟨b,off,ko,kc,e,hlt,hD,c0,c1,c2,c3,c4,c5,c6,c7,hk⟩:=h k x hx;have hn:¬ S b:=fun hs=>by have:=hS b hs;omega
 exact ⟨b,off,ko,kc,e,aL hlt hb.size,hD,hb.cell hn c0,hb.cell hn c1,hb.cell hn c2,hb.cell hn c3,hb.cell hn c4,hb.cell hn c5,hb.cell hn c6,hb.cell hn c7,dD.but hb hS hk⟩
theorem sN.low {D D' n:Nat} {w:World} {ro:Option Addr} {l:List (ByteArray × Ex)} (h:sN w D n ro l) (hD:D'<=D):sN w D' n ro l:=fun k x hx=>by obtain ⟨b,off,ko,kc,e,hlt,hD2,c0,c1,c2,c3,c4,c5,c6,c7,hk⟩:=h k x hx;exact ⟨b,off,ko,kc,e,hlt,by omega,c0,c1,c2,c3,c4,c5,c6,c7,dD.low hD hk⟩
theorem RB.room {G:Prop} {w:World} {D m c:Nat} {ro:Option Addr} {nv:Value} {RL:List (ByteArray × Ex)} (h:RB G w D nv (.slice ro m c) RL):RL.length<=c:=by obtain ⟨S1,S2,R,Z,n,h1,h2,h3,h4,h5,h6,h7⟩:=h;obtain ⟨ao,cap,e1,hle,-⟩:=h6.form;injection e1 with e1 e2 e3;subst e3;rw [<- h4,List.length_map];exact hle
theorem RB.rules {G:Prop} {w:World} {D m c:Nat} {ro:Option Addr} {nv:Value} {RL:List (ByteArray × Ex)} (h:RB G w D nv (.slice ro m c) RL) (hG:G):∃ n,sN w D n ro RL:=by
 obtain ⟨S1,S2,R,Z,n,h1,h2,h3,rfl,h5,h6,h7⟩:=h;refine ⟨n,fun k x hx=>?_⟩;have hk:k < Z.length:=by have:=(aS.1 hx).1;simpa using this
 obtain ⟨z,hz⟩:∃ z,Z[k]?=some z:=⟨_,aG hk⟩;obtain rfl:(z.1,z.2.1)=x:=by rw [List.getElem?_map,hz] at hx;simpa using hx
 obtain ⟨ao',cap,e1,_,_,hf⟩:=h6.form;injection e1 with e1 e2 e3;subst e1;have get:∀ j,j < 8->∃ g off,ro=some ⟨g,off,none⟩/\S2 g/\g < w.heap.size/\w.cell? ⟨g,off + (k * 8 + j),none⟩=(Fs z)[j]?:=fun j hj=>by obtain ⟨g,off,e,hs,hg,hc,_⟩:=hf (k * 8 + j) (by omega);exact ⟨g,off,e,hs,hg,by rw [hc,A6N Z k j z hz hj]⟩
 obtain ⟨g,off,e,hs,hg,c0⟩:=get 0 (by omega);subst e;have get2:∀ j,j < 8->w.cell? ⟨g,off + (k * 8 + j),none⟩=(Fs z)[j]?:=fun j hj=>by obtain ⟨g',off',e,_,_,hc⟩:=get j hj;injection e with e;injection e with e4 e5;subst e4 e5;exact hc
 exact ⟨g,off,z.2.2.1,z.2.2.2,rfl,hg,(h1 g (.inr (.inl hs))).1,c0,get2 1 (by omega),get2 2 (by omega),get2 3 (by omega),get2 4 (by omega),get2 5 (by omega),get2 6 (by omega),get2 7 (by omega),(h7 hG z (aM hz)).toE fun b hb=>(h1 b (.inr (.inr hb))).1⟩
theorem PV:(Tryz.prog.info? 51).map (fun i=>(i.zero,i.size,i.bytes))=some (some (.agg #[.string ⟨#[]⟩,.int .i64 0,.string ⟨#[]⟩,.int .u64 0,.int .u64 0,.int .u64 0,.int .u64 0,.slice none 0 0]),8,96):=by kernel_rfl
def mdT (m:Md):Except Ft2 (List (ByteArray × Ex))->Except Ft2 Md
 | .error e=>.error e
 | .ok R=>.ok { m with ru:=R }
def B9q (L:List Tok):Except Ft2 (Md × Nat)->Except Ft2 Md
 | .error e=>.error e
 | .ok (m,k)=>mdT m (uE L (L.length + 1) [] k)
theorem IZ (L:List Tok):B1a L=B9q L (Oz L):=by
 unfold B1a
 cases Oz L with
 | error e=>rfl
 | ok p =>
  obtain ⟨m,k⟩:=p;show (match uE L (L.length + 1) [] k with | .error e=>Except.error e | .ok R=>.ok { m with ru:=R })=mdT m (uE L (L.length + 1) [] k)
  cases uE L (L.length + 1) [] k <;> rfl
def MdE (D:Nat) (r:Except Ft2 Md) (e:Ending) (w':World):Prop:=match r with
 | .error f=>e=.returned (.tuple #[.agg #[.string ⟨#[]⟩,.slice none 0 0,.bool false,.int .i64 0,.string ⟨#[]⟩,.int .u64 0,.int .u64 0,.int .u64 0,.int .u64 0,.slice none 0 0,.slice none 0 0],.agg #[.int .i64 f.1,.int .i64 f.2,.int .i64 0,.int .i64 0]])/\f.1 ≠ 0
 | .ok m=>∃ io ic ko kc ro rc n,e=.returned (.tuple #[.agg #[.string m.nm,.slice io m.im.length ic,.bool m.wet,.int .i64 m.wa.op,.string m.wa.text,.int .u64 m.wa.s0,.int .u64 m.wa.s1,.int .u64 m.wa.s2,.int .u64 m.wa.s3,.slice ko m.wa.kids.length kc,.slice ro m.ru.length rc],.agg #[.int .i64 0,.int .i64 0,.int .i64 0,.int .i64 0]])/\m.im.length<=ic/\m.ru.length<=rc/\nJ w' (fun b=>D<=b) io m.im/\dD w' D n ko m.wa.kids/\sN w' D n ro m.ru
theorem sN.upto {w:World} {D n:Nat} {ro:Option Addr} {l:List (ByteArray × Ex)} (h:sN w D n ro l) (m:Nat) (hm:n<=m):sN w D m ro l:=fun k x hx=>by obtain ⟨b,off,ko,kc,e,hlt,hD2,c0,c1,c2,c3,c4,c5,c6,c7,hk⟩:=h k x hx;exact ⟨b,off,ko,kc,e,hlt,hD2,c0,c1,c2,c3,c4,c5,c6,c7,hk.upto m hm⟩
@[go_sem 2000] theorem C1l (t:ByteArray) (a:Int) (b:ByteArray) (c d e f:Int) (A:Option Addr) (n m:Nat) (w:World):(Instr.build 51 #[(0,.string t),(1,.agg #[.int .i64 a,.string b,.int .u64 c,.int .u64 d,.int .u64 e,.int .u64 f,.slice A n m])]).run Tryz.prog w=.ok (.agg #[.string t,.int .i64 a,.string b,.int .u64 c,.int .u64 d,.int .u64 e,.int .u64 f,.slice A n m]) w:=by kernel_rfl
@[go_sem 2000] theorem C1J (A:Option Addr) (n m:Nat) (w:World):(Instr.build 97 #[(0,.slice A n m)]).run Tryz.prog w=.ok (.agg #[.slice A n m,.int .i64 0,.int .i64 0,.int .i64 0,.int .i64 0,.int .i64 0]) w:=by kernel_rfl
end Go.Proofs.YthkdnehgamefiaaGreat
