import Derived.Test.YthkdnehgamefiaaGreatDpB
import Derived.Test.YthkdnehgamefiaaGreatEd
namespace Go.Proofs.YthkdnehgamefiaaGreat
set_option linter.unusedVariables false
set_option maxHeartbeats 6400000
set_option maxRecDepth 1000000
set_option maxRecDepth 1000000
open Go.RowKit Go.Sort
def Dmz (w:World) (D:Nat) (z:Mz):Prop :=
 ∃ (S1 S2 R:Nat->Prop) (Z:List Zr) (n:Nat),(∀ b,S1 b\/S2 b\/R b->D<=b/\b < w.heap.size)/\(∀ b,R b->¬ S1 b/\¬ S2 b)/\(∀ b,S1 b->¬ S2 b)/\Z.map (fun y=>(y.1,y.2.1))=z.m.ru ∧
  Win S1 9 1 w (.slice z.io z.m.im.length z.ic) z.m.im.length (z.m.im.map Value.string)/\Win S2 51 8 w (.slice z.ro z.m.ru.length z.rc) Z.length (Z.flatMap Fs) ∧
  fM w R n z.ko z.m.wa.kids/\∀ y ∈ Z,fM w R n y.2.2.1 y.2.1.kids
theorem Dmz.start (w:World) (D:Nat):Dmz w D ⟨md0,none,0,none,0,none,0⟩ :=
 ⟨fun _=>False,fun _=>False,fun _=>False,[],0,(fun b h=>by rcases h with h | h | h <;> cases h),(fun b h=>by cases h),(fun b h=>by cases h),rfl,Win.nil _ _ _ _,Win.nil _ _ _ _,rfl,fun y hy=>absurd hy List.not_mem_nil⟩
theorem Dmz.keep {w w':World} {D:Nat} {z:Mz} {U:Nat->Prop} (h:Dmz w D z) (hb:But U w w') (hU:∀ b,U b->b < D\/w.heap.size<=b):Dmz w' D z:=by
 obtain ⟨S1,S2,R,Z,n,h1,h2,h3,h4,h5,h6,h8,h9⟩:=h;have q:∀ b,(S1 b\/S2 b\/R b)->¬ U b:=fun b hs hu=>by have:=h1 b hs;have:=hU b hu;omega
 exact ⟨S1,S2,R,Z,n,fun b hb'=>⟨(h1 b hb').1,aL (h1 b hb').2 hb.size⟩,h2,h3,h4,h5.keep hb fun g _ hs=>q g (.inl hs),h6.keep hb fun g _ hs=>q g (.inr (.inl hs)),h8.but hb fun g _ hr=>q g (.inr (.inr hr)),fun y hy=>(h9 y hy).but hb fun g _ hr=>q g (.inr (.inr hr))⟩
theorem Dmz.below {w w':World} {D:Nat} {z:Mz} (h:Dmz w D z) (hb:Below w.heap.size w w'):Dmz w' D z:=h.keep (U:=fun _=>False) (But.of_below hb) fun _ h=>h.elim
theorem Dmz.name {w:World} {D:Nat} {z:Mz} (h:Dmz w D z) (x:ByteArray):Dmz w D ⟨{ z.m with nm:=x },z.io,z.ic,z.ko,z.kc,z.ro,z.rc⟩:=h
theorem Dmz.wet {w:World} {D:Nat} {z:Mz} (h:Dmz w D z):Dmz w D ⟨{ z.m with wet:=true },z.io,z.ic,z.ko,z.kc,z.ro,z.rc⟩:=h
theorem Dmz.water {w w':World} {D n':Nat} {z:Mz} {U:Nat->Prop} {x:Ex} {ko:Option Addr} {kc:Nat} (h:Dmz w D z) (hD:D<=w.heap.size) (hb:But U w w') (hU:∀ b,U b->b < D\/w.heap.size<=b) (hE:dD w' w.heap.size n' ko x.kids):Dmz w' D ⟨{ z.m with wa:=x },z.io,z.ic,ko,kc,z.ro,z.rc⟩:=by
 obtain ⟨S1,S2,R,Z,n,h1,h2,h3,h4,h5,h6,h8,h9⟩:=h;have q:∀ b,(S1 b\/S2 b\/R b)->¬ U b:=fun b hs hu=>by have:=h1 b hs;have:=hU b hu;omega
 refine ⟨S1,S2,fun b=>R b\/(w.heap.size<=b/\b < w'.heap.size),Z,max n n',?_,?_,h3,h4,h5.keep hb fun g _ hs=>q g (.inl hs),h6.keep hb fun g _ hs=>q g (.inr (.inl hs)),?_,?_⟩
 ·
  intro b hs;have hsz:=hb.size;rcases hs with hs | hs | hs | hs
  · have:=h1 b (.inl hs);omega
  · have:=h1 b (.inr (.inl hs));omega
  · have:=h1 b (.inr (.inr hs));omega
  · omega
 ·
  intro b hs;rcases hs with hs | hs
  · exact h2 b hs
  · exact ⟨fun h'=>by have:=h1 b (.inl h');omega,fun h'=>by have:=h1 b (.inr (.inl h'));omega⟩
 · exact ((fM.ofE hE).mono (fun b _ h=>.inr h)).upto _ (Nat.le_max_right _ _)
 · exact fun y hy=>(((h9 y hy).but hb fun g _ hr=>q g (.inr (.inr hr))).mono (fun b _ h=>.inl h)).upto _ (Nat.le_max_left _ _)
theorem Dmz.imp {w w1 w3:World} {D n:Nat} {z:Mz} {S1 S2 R U:Nat->Prop} {Z:List Zr} {x:ByteArray} {v':Value} (hD:D<=w.heap.size)
  (h1:∀ b,S1 b\/S2 b\/R b->D<=b/\b < w.heap.size) (h2:∀ b,R b->¬ S1 b/\¬ S2 b) (h3:∀ b,S1 b->¬ S2 b) (h4:Z.map (fun y=>(y.1,y.2.1))=z.m.ru)
  (h6:Win S2 51 8 w (.slice z.ro z.m.ru.length z.rc) Z.length (Z.flatMap Fs)) (h8:fM w R n z.ko z.m.wa.kids) (h9:∀ y ∈ Z,fM w R n y.2.2.1 y.2.1.kids)
  (hb:But U w w1) (hU:∀ b,U b->b < D\/w.heap.size<=b) (hw:Win (fun b=>S1 b\/w1.heap.size<=b) 9 1 w3 v' (z.m.im.length + 1) (z.m.im.map Value.string ++ [.string x])) (hb3:But S1 w1 w3) :
  ∃ io' ic',v'=.slice io' (z.m.im.length + 1) ic'/\Dmz w3 D ⟨{ z.m with im:=z.m.im ++ [x] },io',ic',z.ko,z.kc,z.ro,z.rc⟩:=by
 have q:∀ b,(S1 b\/S2 b\/R b)->¬ U b:=fun b hs hu=>by have:=h1 b hs;have:=hU b hu;omega
 obtain ⟨io',ic',hv,-⟩:=hw.form;have s1:=hb.size;have s3:=hb3.size;subst hv;refine ⟨io',ic',rfl,fun b=>(S1 b\/w1.heap.size<=b)/\b < w3.heap.size,S2,R,Z,n,?_,?_,?_,h4,?_,?_,?_,?_⟩
 ·
  intro b hs;rcases hs with ⟨hs | hs,hlt⟩ | hs | hs
  · have:=h1 b (.inl hs);omega
  · omega
  · have:=h1 b (.inr (.inl hs));omega
  · have:=h1 b (.inr (.inr hs));omega
 ·
  intro b hr;refine ⟨?_,(h2 b hr).2⟩;rintro ⟨hs | hs,hlt⟩
  · exact (h2 b hr).1 hs
  · have:=h1 b (.inr (.inr hr));omega
 ·
  rintro b ⟨hs | hs,hlt⟩ ht
  · exact h3 b hs ht
  · have:=h1 b (.inr (.inl ht));omega
 · show Win _ _ 1 w3 (.slice io' (z.m.im ++ [x]).length ic') (z.m.im ++ [x]).length ((z.m.im ++ [x]).map Value.string);rw [List.length_append,List.map_append];exact hw.mono fun b hb hs=>⟨hs,hb⟩
 · exact (h6.keep hb fun g _ hs=>q g (.inr (.inl hs))).keep hb3 fun g _ hs h'=>h3 g h' hs
 · exact (h8.but hb fun g _ hr=>q g (.inr (.inr hr))).but hb3 fun g _ hr=>(h2 g hr).1
 · exact fun y hy=>((h9 y hy).but hb fun g _ hr=>q g (.inr (.inr hr))).but hb3 fun g _ hr=>(h2 g hr).1
theorem Dmz.rule {w w1 w3:World} {D n n':Nat} {z:Mz} {S1 S2 R U:Nat->Prop} {Z:List Zr} {nm:ByteArray} {x:Ex} {ko:Option Addr} {kc:Nat} {v':Value} (hD:D<=w.heap.size)
  (h1:∀ b,S1 b\/S2 b\/R b->D<=b/\b < w.heap.size) (h2:∀ b,R b->¬ S1 b/\¬ S2 b) (h3:∀ b,S1 b->¬ S2 b) (h4:Z.map (fun y=>(y.1,y.2.1))=z.m.ru)
  (h5:Win S1 9 1 w (.slice z.io z.m.im.length z.ic) z.m.im.length (z.m.im.map Value.string)) (h8:fM w R n z.ko z.m.wa.kids) (h9:∀ y ∈ Z,fM w R n y.2.2.1 y.2.1.kids)
  (hb:But U w w1) (hU:∀ b,U b->b < D\/w.heap.size<=b) (hE:dD w1 w.heap.size n' ko x.kids)
  (hw:Win (fun b=>S2 b\/w1.heap.size<=b) 51 8 w3 v' (Z.length + 1) (Z.flatMap Fs ++ Fs (nm,x,ko,kc))) (hb3:But S2 w1 w3) :
  ∃ ro' rc',v'=.slice ro' (z.m.ru.length + 1) rc'/\Dmz w3 D ⟨{ z.m with ru:=z.m.ru ++ [(nm,x)] },z.io,z.ic,z.ko,z.kc,ro',rc'⟩:=by
 have q:∀ b,(S1 b\/S2 b\/R b)->¬ U b:=fun b hs hu=>by have:=h1 b hs;have:=hU b hu;omega
 have hzl:Z.length=z.m.ru.length:=by rw [<- h4,List.length_map]
 obtain ⟨ro',rc',hv,-⟩:=hw.form;have s1:=hb.size;have s3:=hb3.size;subst hv;refine ⟨ro',rc',by rw [hzl],S1,fun b=>(S2 b\/w1.heap.size<=b)/\b < w3.heap.size,fun b=>R b\/(w.heap.size<=b/\b < w1.heap.size),Z ++ [(nm,x,ko,kc)],max n n',?_,?_,?_,?_,?_,?_,?_,?_⟩
 ·
  intro b hs;rcases hs with hs | ⟨hs | hs,hlt⟩ | hs | hs
  · have:=h1 b (.inl hs);omega
  · have:=h1 b (.inr (.inl hs));omega
  · omega
  · have:=h1 b (.inr (.inr hs));omega
  · omega
 ·
  intro b hr;rcases hr with hr | hr
  ·
   refine ⟨(h2 b hr).1,?_⟩;rintro ⟨hs | hs,hlt⟩
   · exact (h2 b hr).2 hs
   · have:=h1 b (.inr (.inr hr));omega
  ·
   refine ⟨fun hs=>by have:=h1 b (.inl hs);omega,?_⟩;rintro ⟨hs | hs,hlt⟩
   · have:=h1 b (.inr (.inl hs));omega
   · omega
 ·
  rintro b hs ⟨ht | ht,hlt⟩
  · exact h3 b hs ht
  · have:=h1 b (.inl hs);omega
 · show (Z ++ [(nm,x,ko,kc)]).map _=z.m.ru ++ [(nm,x)];rw [List.map_append,h4];rfl
 · exact (h5.keep hb fun g _ hs=>q g (.inl hs)).keep hb3 fun g _ hs h'=>h3 g hs h'
 ·
  show Win _ _ 8 w3 (.slice ro' (z.m.ru ++ [(nm,x)]).length rc') _ _;rw [List.length_append,List.length_append,List.flatMap_append];have e:List.flatMap Fs [(nm,x,ko,kc)]=Fs (nm,x,ko,kc):=by simp
  rw [e,<- hzl];exact hw.mono fun b hb hs=>⟨hs,hb⟩
 · exact (((h8.but hb fun g _ hr=>q g (.inr (.inr hr))).but hb3 fun g _ hr=>(h2 g hr).2).mono (fun b _ h=>.inl h)).upto _ (Nat.le_max_left _ _)
 ·
  intro y hy;rw [List.mem_append,List.mem_singleton] at hy;rcases hy with hy | rfl
  · exact ((((h9 y hy).but hb fun g _ hr=>q g (.inr (.inr hr))).but hb3 fun g _ hr=>(h2 g hr).2).mono (fun b _ h=>.inl h)).upto _ (Nat.le_max_left _ _)
  · exact (((fM.ofE hE).but hb3 fun g _ hr hs=>by have:=h1 g (.inr (.inl hs));omega).mono (fun b _ h=>.inr h)).upto _ (Nat.le_max_right _ _)
theorem Dmz.done {w:World} {D:Nat} {z:Mz} (h:Dmz w D z):nJ w (fun b=>D<=b) z.io z.m.im/\z.m.im.length<=z.ic/\z.m.ru.length<=z.rc/\∃ n,dD w D n z.ko z.m.wa.kids/\sN w D n z.ro z.m.ru:=by
 obtain ⟨S1,S2,R,Z,n,h1,h2,h3,h4,h5,h6,h8,h9⟩:=h;have hn:=A0I h5;obtain ⟨_,_,e5,l5,_⟩:=h5.form;injection e5 with _ _ e5;obtain ⟨_,_,e6,l6,_⟩:=h6.form;injection e6 with _ e7 e6;refine ⟨fun k x hx=>?_,by omega,by omega,?_⟩
 · obtain ⟨b,off,e,hlt,hr,c⟩:=hn k x hx;exact ⟨b,off,e,hlt,(h1 b (.inl hr)).1,c⟩
 have h7:∀ (m:Nat) (ao:Option Addr) (K:List Ex),fM w R m ao K->dD w D m ao K:=fun m ao K hk=>fM.toE (fun b hr=>(h1 b (.inr (.inr hr))).1) hk;refine ⟨n,h7 _ _ _ h8,?_⟩;rw [<- h4];intro k x hx;have hk:k < Z.length:=by have:=(aS.1 hx).1;simpa using this
 obtain ⟨y,hz⟩:∃ y,Z[k]?=some y:=⟨_,aG hk⟩;obtain rfl:(y.1,y.2.1)=x:=by rw [List.getElem?_map,hz] at hx;simpa using hx
 obtain ⟨ao',cap,e1,_,_,hf⟩:=h6.form;injection e1 with e1 e2 e3;subst e1;have get:∀ j,j < 8->∃ g off,z.ro=some ⟨g,off,none⟩/\S2 g/\g < w.heap.size/\w.cell? ⟨g,off + (k * 8 + j),none⟩=(Fs y)[j]?:=fun j hj=>by obtain ⟨g,off,e,hs,hg,hc,_⟩:=hf (k * 8 + j) (by omega);exact ⟨g,off,e,hs,hg,by rw [hc,A6N Z k j y hz hj]⟩
 obtain ⟨g,off,e0,hs,hg,c0⟩:=get 0 (by omega);have get2:∀ j,j < 8->w.cell? ⟨g,off + (k * 8 + j),none⟩=(Fs y)[j]?:=fun j hj=>by obtain ⟨g',off',e,_,_,hc⟩:=get j hj;rw [e0] at e;injection e with e;injection e with e4 e5;subst e4 e5;exact hc
 exact ⟨g,off,y.2.2.1,y.2.2.2,e0,hg,(h1 g (.inr (.inl hs))).1,c0,get2 1 (by omega),get2 2 (by omega),get2 3 (by omega),get2 4 (by omega),get2 5 (by omega),get2 6 (by omega),get2 7 (by omega),(h9 y (aM hz)).toE fun b hb=>(h1 b (.inr (.inr hb))).1⟩
def hdpO (L:List Tok):Except Ft2 (ByteArray × Nat) :=
 if wdB L 0 1 [109,111,100,117,108,101]=true then (match Pg L 1 with
  | none=>.error (gH L 2 1)
  | some nm=>if wdB L 2 4 [59]=true then .ok (nm,3) else .error (gH L 2 2))
 else .error (gH L 2 0)
theorem nmeO_p (L:List Tok) (no:List ByteArray) (k:Nat):pV L no k=match Pg L k with
  | none=>.error (gH L 2 k)
  | some x=>if hasB no x=true then .error (gH L 4 k) else .ok (x,k + 1):=by
 unfold pV Pg;by_cases h:((tkA L k).kd == 1 && bN (tkA L k).tx)=true
 · rw [if_pos h,if_pos h]
 · rw [if_neg h,if_neg h]
theorem sgnO_p (L:List Tok) (s:List UInt8) (k:Nat):oO L s k=if wdB L k 4 s=true then .ok (k + 1) else .error (gH L 2 k):=rfl
theorem wdB_kd {L:List Tok} {k kd:Nat} {s:List UInt8} (h:wdB L k kd s=true):(tkA L k).kd=kd:=by unfold wdB at h;rw [Bool.and_eq_true,beq_iff_eq] at h;exact h.1
theorem nmeP_kd {L:List Tok} {k:Nat} {x:ByteArray} (h:Pg L k=some x):(tkA L k).kd=1:=(Yb h).1
def Flt (w':World) (g:Nat) (lo:Option Addr) (lc:Nat) (L:List Tok) (f:Ft2) (e:Ending):Prop:=e=.returned (.bool false)/\f.1 ≠ 0/\∃ k' z',k' < L.length/\Dq w' g lo lc L k' z' (some f)
def HeE (g:Nat) (lo:Option Addr) (lc:Nat) (L:List Tok) (z:Mz) (r:Except Ft2 (ByteArray × Nat)) (e:Ending) (w':World):Prop:=match r with
 | .ok (nm,k)=>e=.returned (.bool true)/\Dq w' g lo lc L k ⟨{ z.m with nm:=nm },z.io,z.ic,z.ko,z.kc,z.ro,z.rc⟩ none
 | .error f=>Flt w' g lo lc L f e
theorem Dq.nm {w:World} {g:Nat} {lo:Option Addr} {lc:Nat} {L:List Tok} {k:Nat} {z:Mz} {F:Option Ft2} (h:Dq w g lo lc L k z F) (x:ByteArray):Dq (w.setCell ⟨g,2,none⟩ (.string x)) g lo lc L k ⟨{ z.m with nm:=x },z.io,z.ic,z.ko,z.kc,z.ro,z.rc⟩ F :=
 ⟨h.1.put 2 _,h.2.1.but h.2.2 (But.put _ _ _ _),h.2.2⟩
theorem Dq.wet {w:World} {g:Nat} {lo:Option Addr} {lc:Nat} {L:List Tok} {k:Nat} {z:Mz} {F:Option Ft2} (h:Dq w g lo lc L k z F):Dq (w.setCell ⟨g,4,none⟩ (.bool true)) g lo lc L k ⟨{ z.m with wet:=true },z.io,z.ic,z.ko,z.kc,z.ro,z.rc⟩ F :=
 ⟨h.1.put 4 _,h.2.1.but h.2.2 (But.put _ _ _ _),h.2.2⟩
theorem Dq.im {w:World} {g:Nat} {lo:Option Addr} {lc:Nat} {L:List Tok} {k n:Nat} {z:Mz} {F:Option Ft2} (h:Dq w g lo lc L k z F) (x:ByteArray) (io:Option Addr) (ic:Nat) (hn:z.m.im.length=n):Dq (w.setCell ⟨g,3,none⟩ (.slice io (n + 1) ic)) g lo lc L k ⟨{ z.m with im:=z.m.im ++ [x] },io,ic,z.ko,z.kc,z.ro,z.rc⟩ F:=by
 subst hn;refine ⟨?_,h.2.1.but h.2.2 (But.put _ _ _ _),h.2.2⟩;have q:=h.1.put 3 (.slice io (z.m.im.length + 1) ic);have e:dprow (.slice lo L.length lc) (k:Int) ⟨{ z.m with im:=z.m.im ++ [x] },io,ic,z.ko,z.kc,z.ro,z.rc⟩ F=(dprow (.slice lo L.length lc) (k:Int) z F).set 3 (.slice io (z.m.im.length + 1) ic):=by simp [dprow]
 rw [e];exact q
theorem dp_head (HW:oJ) (g:Nat) (lo:Option Addr) (lc:Nat) (L:List Tok) (z:Mz) (hn:(L.length:Int)<=90000) (hk:0 < L.length) (htx:∀ t ∈ L,t.tx.size<=1000000) (HNB:∀ j,(tkA L j).kd ≠ 0->j + 1 < L.length) (w:World) (h:Dq w g lo lc L 0 z none) :
  Calls Tryz.prog 38 #[.pointer (some ⟨g,0,none⟩)] w fun e w'=>HeE g lo lc L z (hdpO L) e w'/\But (fun j=>j=g) w w':=by
 have HKL:=aH hk;have HNB:=aH HNB
 have HSP:=aH (show hdpO L=if wdB L 0 1 [109,111,100,117,108,101]=true then (match Pg L 1 with
  | none=>.error (gH L 2 1)
  | some nm=>if wdB L 2 4 [59]=true then .ok (nm,3) else .error (gH L 2 2))
 else .error (gH L 2 0) from rfl)
 generalize hdpO L=RES at *;have HM1:=aH (dp_must 1 ⟨#[109,111,100,117,108,101]⟩ g lo lc L 0 z (by omega) hk w h);have HN1:=aH (fun (h1:1 < L.length) W (hW:Dq W g lo lc L 1 z none)=>dp_name HW g lo lc L 1 z (by omega) h1 htx W hW);have HM2:=aH (fun (h1:2 < L.length) z' W (hW:Dq W g lo lc L 2 z' none)=>dp_must 4 ⟨#[59]⟩ g lo lc L 2 z' (by omega) h1 W hW);have HU0:=aH (But.refl (fun j=>j=g) w);clear h hk htx hn;go_enter Tryz.func38,Tryz.ntmps38;go_wp2_with fail;refine (HM1.o).mono ?_;rintro e w1 ⟨hm,hu⟩;have HU1:=aH (HU0.o.trans hu (fun _ _ h=>h));clear hu
 cases hwd:wdB L 0 1 (⟨#[109,111,100,117,108,101]⟩:ByteArray).data.toList
 case false =>
  rw [hwd] at hm;obtain ⟨he,hq⟩:=hm;subst he;have HE:=aH (show RES=.error (gH L 2 0) from by rw [HSP.o,show wdB L 0 1 [109,111,100,117,108,101]=false from hwd];rfl);have HQ:=aH hq;clear hq;go_wp2;go_ret;exact ⟨by rw [HE.o];exact ⟨rfl,(show (2:Int) ≠ 0 by decide),_,_,HKL.o,HQ.o⟩,HU1.o⟩
 case true =>
  rw [hwd] at hm;obtain ⟨he,hq⟩:=hm;subst he;have HL1:=aH (show 1 < L.length from HNB.o 0 (by rw [wdB_kd hwd];decide))
  have HS1:=aH (show RES=(match Pg L 1 with
   | none=>.error (gH L 2 1)
   | some nm=>if wdB L 2 4 [59]=true then .ok (nm,3) else .error (gH L 2 2)) from by rw [HSP.o,show wdB L 0 1 [109,111,100,117,108,101]=true from hwd];rfl)
  have HQ1:=aH hq;clear hq hwd;go_wp2_with fail;refine (HN1.o HL1.o _ HQ1.o).mono ?_;rintro e w2 ⟨hm,hu⟩;have HU2:=aH (HU1.o.trans hu (fun _ _ h=>h));clear hu
  cases hnm:Pg L 1 with
  | none =>
   rw [hnm] at hm;obtain ⟨he,hq⟩:=hm;subst he;have HE:=aH (show RES=.error (gH L 2 1) from by rw [HS1.o,hnm]);have HQ:=aH hq;clear hq;go_wp2;go_ret;exact ⟨by rw [HE.o];exact ⟨rfl,(show (2:Int) ≠ 0 by decide),_,_,HL1.o,HQ.o⟩,HU2.o⟩
  | some nm =>
   rw [hnm] at hm;obtain ⟨he,hq⟩:=hm;subst he;have HL2:=aH (show 2 < L.length from HNB.o 1 (by rw [nmeP_kd hnm];decide));have HS2:=aH (show RES=if wdB L 2 4 [59]=true then .ok (nm,3) else .error (gH L 2 2) from by rw [HS1.o,hnm]);have HQ3:=aH ((hq.nm nm).at 2 (.int .i64 2) rfl);have HU3:=aH ((HU2.o.setCell (p:=⟨g,2,none⟩) (fun _=>rfl) (.string nm)).setCell (p:=⟨g,1,none⟩) (fun _=>rfl) (.int .i64 2));have c1:w2.cell? ⟨g,1,none⟩=some (.int .i64 1):=hq.1.cell 1;have f1:w2.frozen? ⟨g,1,none⟩=false:=hq.1.thaw 1;have c2:w2.cell? ⟨g,2,none⟩=some (.string z.m.nm):=hq.1.cell 2;have f2:w2.frozen? ⟨g,2,none⟩=false:=hq.1.thaw 2;have cg:=hq.1.lt;clear hq hnm HU2;go_upto_region 8 with fail;clear c1 f1 c2 f2 cg;generalize World.setCell (World.setCell w2 _ _) _ _=w3 at *;go_wp2_with fail;refine (HM2.o HL2.o _ _ HQ3.o).mono ?_;rintro e w4 ⟨hm,hu⟩;have HU4:=aH (HU3.o.trans hu (fun _ _ h=>h));clear hu
   cases hwd:wdB L 2 4 (⟨#[59]⟩:ByteArray).data.toList
   case false =>
    rw [hwd] at hm;obtain ⟨he,hq⟩:=hm;subst he;have HE:=aH (show RES=.error (gH L 2 2) from by rw [HS2.o,show wdB L 2 4 [59]=false from hwd];rfl);have HQ:=aH hq;clear hq;go_wp2;go_ret;exact ⟨by rw [HE.o];exact ⟨rfl,(show (2:Int) ≠ 0 by decide),_,_,HL2.o,HQ.o⟩,HU4.o⟩
   case true =>
    rw [hwd] at hm;obtain ⟨he,hq⟩:=hm;subst he;have HE:=aH (show RES=.ok (nm,3) from by rw [HS2.o,show wdB L 2 4 [59]=true from hwd];rfl);have HQ:=aH hq;clear hq;go_wp2;go_ret;exact ⟨by rw [HE.o];exact ⟨rfl,HQ.o⟩,HU4.o⟩
def wtpO (L:List Tok) (k:Nat):Except Ft2 (Option Ex × Nat) :=
 if wdB L k 1 [119,97,116,101,114]=true then (match uW L (k + 1) with
  | .error e=>.error e
  | .ok (x,m)=>.ok (some x,m))
 else .ok (none,k)
def WaE (g:Nat) (lo:Option Addr) (lc:Nat) (L:List Tok) (z:Mz) (r:Except Ft2 (Option Ex × Nat)) (e:Ending) (w':World):Prop:=match r with
 | .ok (some x,k)=>e=.returned (.bool true)/\∃ ko kc,Dq w' g lo lc L k ⟨{ z.m with wet:=true,wa:=x },z.io,z.ic,ko,kc,z.ro,z.rc⟩ none/\Dmz w' (g + 1) ⟨{ z.m with wet:=true,wa:=x },z.io,z.ic,ko,kc,z.ro,z.rc⟩
 | .ok (none,k)=>e=.returned (.bool true)/\Dq w' g lo lc L k z none/\Dmz w' (g + 1) z
 | .error f=>Flt w' g lo lc L f e
theorem dp_water (HW:oJ) (g:Nat) (lo:Option Addr) (lc:Nat) (L:List Tok) (k:Nat) (z:Mz) (hn:(L.length:Int)<=90000) (hk:k < L.length) (htx:∀ t ∈ L,t.tx.size<=1000000) (HNB:∀ j,(tkA L j).kd ≠ 0->j + 1 < L.length) (w:World) (h:Dq w g lo lc L k z none) (hm:Dmz w (g + 1) z) :
  Calls Tryz.prog 40 #[.pointer (some ⟨g,0,none⟩)] w fun e w'=>WaE g lo lc L z (wtpO L k) e w'/\But (fun j=>j=g) w w':=by
 have HQ0:=aH h;have HM0:=aH hm;have HNB':=aH HNB;have HC:=aH (dp_comes 1 ⟨#[119,97,116,101,114]⟩ g lo lc L k z none (by omega) hk w h);have HB:=aH (fun (h1:k + 1 < L.length) z' W (hW:Dq W g lo lc L (k + 1) z' none)=>dp_bodyw HW g lo lc L (k + 1) z' hn h1 htx HNB W hW)
 have HSP:=aH (show wtpO L k=if wdB L k 1 [119,97,116,101,114]=true then (match uW L (k + 1) with
  | .error e=>.error e
  | .ok (x,m)=>.ok (some x,m))
 else .ok (none,k) from rfl)
 generalize wtpO L k=RES at *;have hw1:IntKind.i64.wrap ((k:Int) + 1)=(k:Int) + 1:=wI;clear h hm hk htx hn HNB;go_enter Tryz.func40,Tryz.ntmps40;go_wp2_with fail;refine HC.o.mono ?_;rintro e w1 ⟨rfl,hb1⟩;have HQ1:=aH (HQ0.o.below hb1);have HM1:=aH (HM0.o.below hb1);have HU1:=aH (But.of_below (S:=fun j=>j=g) hb1);clear hb1 HQ0 HM0 HC
 cases hwd:wdB L k 1 (⟨#[119,97,116,101,114]⟩:ByteArray).data.toList
 case false =>
  have HE:=aH (show RES=.ok (none,k) from by rw [HSP.o,show wdB L k 1 [119,97,116,101,114]=false from hwd];rfl);go_wp2;go_ret;exact ⟨by rw [HE.o];exact ⟨rfl,HQ1.o,HM1.o⟩,HU1.o⟩
 case true =>
  have HL1:=aH (show k + 1 < L.length from HNB'.o k (by rw [wdB_kd hwd];decide))
  have HS1:=aH (show RES=(match uW L (k + 1) with
   | .error e=>.error e
   | .ok (x,m)=>.ok (some x,m)) from by rw [HSP.o,show wdB L k 1 [119,97,116,101,114]=true from hwd];rfl)
  have HB:=aH (HB.o HL1.o);generalize uW L (k + 1)=rs at *;have HQ2:=aH ((HQ1.o.at (k + 1) (.int .i64 ((k:Int) + 1)) (by simp)).wet);have hbt:=((But.refl (fun j=>j=g) w1).setCell (p:=⟨g,1,none⟩) (fun _=>rfl) (.int .i64 ((k:Int) + 1))).setCell (p:=⟨g,4,none⟩) (fun _=>rfl) (.bool true);have HU2:=aH (HU1.o.trans hbt (fun _ _ h=>h));have HM2:=aH ((HM1.o.keep hbt (fun b hb=>.inl (by omega))).wet);have c1:w1.cell? ⟨g,1,none⟩=some (.int .i64 (k:Int)):=HQ1.o.1.cell 1;have f1:w1.frozen? ⟨g,1,none⟩=false:=HQ1.o.1.thaw 1;have c4:w1.cell? ⟨g,4,none⟩=some (.bool z.m.wet):=HQ1.o.1.cell 4;have f4:w1.frozen? ⟨g,4,none⟩=false:=HQ1.o.1.thaw 4;have cg:=HQ1.o.1.lt;clear hwd hbt HU1 HQ1 HM1;go_upto_region 5 with fail;clear c1 f1 c4 f4 cg;generalize World.setCell (World.setCell w1 _ _) _ _=w2 at *;have cg:=HQ2.o.1.lt;go_wp2_with fail;refine (HB.o _ _ HQ2.o).mono ?_;rintro e w3 ⟨hm,hu⟩;have HU3:=aH (HU2.o.trans hu (fun _ _ h=>h))
  cases rs with
  | error f =>
   obtain ⟨he,h0,k',z',hk',hq⟩:=hm;subst he;have HE:=aH (show RES=.error f from HS1.o);have HF:=aH (And.intro h0 (And.intro hk' hq));clear h0 hk' hq hu;go_wp2;go_ret;exact ⟨by rw [HE.o];exact ⟨rfl,HF.o.1,k',z',HF.o.2.1,HF.o.2.2⟩,HU3.o⟩
  | ok p =>
   obtain ⟨x,m⟩:=p;obtain ⟨he,ko,kc,n,hq,hE⟩:=hm;subst he;have HE:=aH (show RES=.ok (some x,m) from HS1.o);have HQ3:=aH hq;have HM3:=aH (Dmz.water (kc:=kc) HM2.o (by omega) hu (fun b hb=>.inl (by omega)) hE);clear hq hE hu;go_wp2;go_ret;exact ⟨by rw [HE.o];exact ⟨rfl,ko,kc,HQ3.o,HM3.o⟩,HU3.o⟩
theorem UT (l:List ByteArray) (io:Option Addr) (ic:Nat) (x:ByteArray) (hn:(l.length:Int)<=1000000) (w:World) (hl:gI w io l) :
  Calls Tryz.prog 65 #[.slice io l.length ic,.string x] w fun e w'=>e=.returned (.bool (hasB l x))/\w=w':=by
 cases l with
 | nil=>exact (Tryz.slices_Contains_string_empty io ic x w).mono fun _ _ h=>⟨h.1,h.2.symm⟩
 | cons y r =>
  obtain ⟨b,off,rfl,_,_⟩:=hl 0 y rfl
  have q:=Tryz.slices_Contains_string b off (y :: r).length ic (y :: r) x w (Nat.le_refl _) (by omega) (fun j hj=>by
   obtain ⟨z,hz⟩:∃ z,(y :: r)[j]?=some z:=⟨_,aG hj⟩;obtain ⟨b2,off2,e2,-,c2⟩:=hl j z hz;injection e2 with e2;injection e2 with e2 e3;subst e2 e3
   rw [c2,List.getD_eq_getElem?_getD,hz];rfl)
  rw [List.take_length,contS_has] at q;exact q.mono fun _ _ h=>⟨h.1,h.2.symm⟩
def impP (L:List Tok) (nm:ByteArray) (im:List ByteArray) (k:Nat):Except Ft2 (ByteArray × Nat) :=
 if im.length=4 then .error (gH L 3 k) else match Pg L (k + 1) with
  | none=>.error (gH L 2 (k + 1))
  | some x=>if (x.toList == nm.toList || hasB im x)=true then .error (gH L 4 (k + 1)) else
   if wdB L (k + 2) 4 [59]=true then .ok (x,k + 3) else .error (gH L 2 (k + 2))
def ImE (g:Nat) (lo:Option Addr) (lc:Nat) (L:List Tok) (z:Mz) (r:Except Ft2 (ByteArray × Nat)) (e:Ending) (w':World):Prop:=match r with
 | .ok (x,k)=>e=.returned (.bool true)/\∃ io ic,Dq w' g lo lc L k ⟨{ z.m with im:=z.m.im ++ [x] },io,ic,z.ko,z.kc,z.ro,z.rc⟩ none/\Dmz w' (g + 1) ⟨{ z.m with im:=z.m.im ++ [x] },io,ic,z.ko,z.kc,z.ro,z.rc⟩
 | .error f=>Flt w' g lo lc L f e
theorem info_strd:(Tryz.prog.info? 9).map (fun i=>(i.zero,i.size,i.bytes))=some (some (.string ⟨#[]⟩),1,16):=by kernel_rfl
theorem dp_oneImport (HW:oJ) (g:Nat) (lo:Option Addr) (lc:Nat) (L:List Tok) (k:Nat) (z:Mz) (hn:(L.length:Int)<=90000) (hk:k + 1 < L.length) (htx:∀ t ∈ L,t.tx.size<=1000000) (HNB:∀ j,(tkA L j).kd ≠ 0->j + 1 < L.length) (h4:z.m.im.length<=4) (hlo:∀ a,lo=some a->a.block < g) (w:World) (h:Dq w g lo lc L k z none) (hm:Dmz w (g + 1) z) :
  Calls Tryz.prog 71 #[.pointer (some ⟨g,0,none⟩)] w fun e w'=>ImE g lo lc L z (impP L z.m.nm z.m.im k) e w'/\But (fun j=>g<=j) w w':=by
 have HQ0:=aH h;have HM0:=aH hm;have HLO:=aH hlo;have HK1:=aH hk;have HNB':=aH HNB;have HU0:=aH (But.refl (fun j=>g<=j) w);have HF:=aH (fun c j (hj:j < L.length) z' W (hW:Dq W g lo lc L j z' none)=>dp_stop c g lo lc L j z' none (by omega) hj W hW);have HN:=aH (fun z' W (hW:Dq W g lo lc L (k + 1) z' none)=>dp_name HW g lo lc L (k + 1) z' (by omega) hk htx W hW);have HM:=aH (fun (h1:k + 2 < L.length) z' W (hW:Dq W g lo lc L (k + 2) z' none)=>dp_must 4 ⟨#[59]⟩ g lo lc L (k + 2) z' (by omega) h1 W hW)
 have HSP:=aH (show impP L z.m.nm z.m.im k=if z.m.im.length=4 then .error (gH L 3 k) else match Pg L (k + 1) with
  | none=>.error (gH L 2 (k + 1))
  | some x=>if (x.toList == z.m.nm.toList || hasB z.m.im x)=true then .error (gH L 4 (k + 1)) else
   if wdB L (k + 2) 4 [59]=true then .ok (x,k + 3) else .error (gH L 2 (k + 2)) from rfl)
 generalize impP L z.m.nm z.m.im k=RES at *;have HCN:=aH (fun x W (hW:gI W z.io z.m.im)=>UT z.m.im z.io z.ic x (by omega) W hW);have HIM:=aH (fun x io ic W (hW:Dq W g lo lc L (k + 1) z none)=>hW.im x io ic (n:=z.m.im.length) rfl);obtain ⟨n,hni⟩:∃ n,z.m.im.length=n:=⟨_,rfl⟩;have HNI:=aH hni;rw [hni] at HSP HCN HIM h4;have c1:w.cell? ⟨g,1,none⟩=some (.int .i64 (k:Int)):=h.1.cell 1;have f1:w.frozen? ⟨g,1,none⟩=false:=h.1.thaw 1;have c3:w.cell? ⟨g,3,none⟩=some (.slice z.io z.m.im.length z.ic):=h.1.cell 3;rw [hni] at c3;have cg:=h.1.lt;have hw1:IntKind.i64.wrap ((k:Int) + 1)=(k:Int) + 1:=by rw [IntKind.wrap_i64];have:=hn;omega
 have hw2:IntKind.i64.wrap ((k:Int) + 1 + 1)=(k:Int) + 1 + 1:=by rw [IntKind.wrap_i64];have:=hn;omega
 clear h hm hk htx HNB hlo hni;go_enter Tryz.func71,Tryz.ntmps71;by_cases h44:n=4
 case pos =>
  have HE:=aH (show RES=.error (gH L 3 k) from by rw [HSP.o,if_pos h44]);subst h44;have HKK:=aH (show k < L.length from by have:=HK1.o;omega);go_wp2_with fail;refine (HF.o 3 k HKK.o _ _ HQ0.o).mono ?_;rintro e w9 ⟨rfl,hu,hq⟩;have HU9:=aH (HU0.o.trans (hu.mono (T:=fun j=>g<=j) (fun j _ e=>by omega)) (fun _ _ h=>h));have HQ9:=aH hq;clear hu hq;go_wp2;go_ret;exact ⟨by rw [HE.o];exact ⟨rfl,(show (3:Int) ≠ 0 by decide),_,_,HKK.o,HQ9.o⟩,HU9.o⟩
 have h44i:((n:Int) == 4)=false:=aN.2 (by omega);have h44d:decide ((n:Int)=4)=false:=aF (by omega)
 have HS1:=aH (show RES=(match Pg L (k + 1) with
   | none=>.error (gH L 2 (k + 1))
   | some x=>if (x.toList == z.m.nm.toList || hasB z.m.im x)=true then .error (gH L 4 (k + 1)) else
    if wdB L (k + 2) 4 [59]=true then .ok (x,k + 3) else .error (gH L 2 (k + 2))) from by rw [HSP.o,if_neg h44])
 have HQ1:=aH (HQ0.o.at (k + 1) (.int .i64 ((k:Int) + 1)) (by simp));have hbt:=(But.refl (fun j=>j=g) w).setCell (p:=⟨g,1,none⟩) (fun _=>rfl) (.int .i64 ((k:Int) + 1));have HU1:=aH (HU0.o.trans (hbt.mono (T:=fun j=>g<=j) (fun j _ e=>by omega)) (fun _ _ h=>h));have HM1:=aH (HM0.o.keep hbt (fun b hb=>.inl (by omega)));clear hbt HU0 HQ0 HM0 HSP;go_upto_region 4 with fail;clear c1 f1 c3 cg;generalize World.setCell w _ _=w1 at *;go_wp2_with fail;refine (HN.o _ _ HQ1.o).mono ?_;rintro e w2 ⟨hm,hu⟩;have HU2:=aH (HU1.o.trans (hu.mono (T:=fun j=>g<=j) (fun j _ e=>by omega)) (fun _ _ h=>h));have HM2:=aH (HM1.o.keep hu (fun b hb=>.inl (by omega)));clear hu HU1 HM1 HQ1
 cases hnm:Pg L (k + 1) with
 | none =>
  rw [hnm] at hm;obtain ⟨he,hq⟩:=hm;subst he;have HE:=aH (show RES=.error (gH L 2 (k + 1)) from by rw [HS1.o,hnm]);have HQ:=aH hq;clear hq;go_wp2;go_ret;exact ⟨by rw [HE.o];exact ⟨rfl,(show (2:Int) ≠ 0 by decide),_,_,HK1.o,HQ.o⟩,HU2.o⟩
 | some x =>
  rw [hnm] at hm;obtain ⟨he,hq⟩:=hm;subst he
  have HS2:=aH (show RES=if (x.toList == z.m.nm.toList || hasB z.m.im x)=true then .error (gH L 4 (k + 1)) else
    if wdB L (k + 2) 4 [59]=true then .ok (x,k + 3) else .error (gH L 2 (k + 2)) from by rw [HS1.o,hnm])
  have HL2:=aH (show k + 2 < L.length from HNB'.o (k + 1) (by rw [nmeP_kd hnm];decide));have HQ2:=aH hq;obtain ⟨S1,S2,R,Z,nz,d1,d2,d3,d4,d5,d6,d8,d9⟩:=HM2.o;have HNN:=aH (oM d5);have HD1:=aH d1;have HD2:=aH d2;have HD3:=aH d3;have HD4:=aH d4;have HD5:=aH d5;have HD6:=aH d6;have HD8:=aH d8;have HD9:=aH d9;have c2:w2.cell? ⟨g,2,none⟩=some (.string z.m.nm):=hq.1.cell 2;have c3:w2.cell? ⟨g,3,none⟩=some (.slice z.io z.m.im.length z.ic):=hq.1.cell 3;rw [HNI.o] at c3;have cg:=hq.1.lt;clear hq hnm d1 d2 d3 d4 d5 d6 d8 d9 HS1 HN;obtain ⟨zn,hzn⟩:∃ b,(x.toList == z.m.nm.toList)=b:=⟨_,rfl⟩;obtain ⟨zh,hzh⟩:∃ b,hasB z.m.im x=b:=⟨_,rfl⟩;have HCX:=aH (HCN.o x w2 HNN.o);rw [hzh] at HCX;rw [hzn,hzh] at HS2;have HZN:=aH hzn;clear hzh HCN
  cases zn with
  | true =>
   have HE:=aH (show RES=.error (gH L 4 (k + 1)) from by rw [HS2.o];rfl);go_wp2_with fail;refine (HF.o 4 (k + 1) HK1.o _ _ HQ2.o).mono ?_;rintro e w9 ⟨rfl,hu,hq⟩;have HU9:=aH (HU2.o.trans (hu.mono (T:=fun j=>g<=j) (fun j _ e=>by omega)) (fun _ _ h=>h));have HQ9:=aH hq;clear hu hq;go_wp2;go_ret;exact ⟨by rw [HE.o];exact ⟨rfl,(show (4:Int) ≠ 0 by decide),_,_,HK1.o,HQ9.o⟩,HU9.o⟩
  | false =>
   go_wp2_with fail;refine HCX.o.mono ?_;rintro e w3 ⟨rfl,rfl⟩
   cases zh with
   | true =>
    have HE:=aH (show RES=.error (gH L 4 (k + 1)) from by rw [HS2.o];rfl);go_wp2_with fail;refine (HF.o 4 (k + 1) HK1.o _ _ HQ2.o).mono ?_;rintro e w9 ⟨rfl,hu,hq⟩;have HU9:=aH (HU2.o.trans (hu.mono (T:=fun j=>g<=j) (fun j _ e=>by omega)) (fun _ _ h=>h));have HQ9:=aH hq;clear hu hq;go_wp2;go_ret;exact ⟨by rw [HE.o];exact ⟨rfl,(show (4:Int) ≠ 0 by decide),_,_,HK1.o,HQ9.o⟩,HU9.o⟩
   | false =>
    have HS3:=aH (show RES=if wdB L (k + 2) 4 [59]=true then .ok (x,k + 3) else .error (gH L 2 (k + 2)) from by rw [HS2.o];rfl);obtain ⟨i0,hi,hz0,hz1,hz2⟩:=cZ info_strd;have HNEW:=aH (fun W=>bD W 9 [.string x]);have HW2:=aH (show Win S1 9 1 w2 (.slice z.io n z.ic) n (z.m.im.map Value.string) from by rw [<- HNI.o];exact HD5.o);clear HS2 HCX HZN hzn
    go_wp2_with (first
     | (at_builtin;refine aX _ rfl _ _ 22 rfl S1 9 i0 _ 1 16 Tryz.underlying22 hi hz0 hz1 hz2 rfl (by decide) _ n (z.m.im.map Value.string) rfl (HW2.o.below (bA _)) ⟨w2.heap.size,0,none⟩ 1 1 [.string x] rfl rfl (HNEW.o w2) (by intro u hu;simp at hu;subst hu;rfl) (by unfold maxLen;omega) (by omega) ?_))
    intro v' w4 hw4 hb4;have hbl:Below w2.heap.size w2 (w2.alloc (.cells #[.string x] 9)):=bA _;have hs1:∀ b,S1 b->g + 1<=b:=fun b hb=>(HD1.o b (.inl hb)).1;have hgw:g + 1<=w2.heap.size:=HQ2.o.1.lt;obtain ⟨io',ic',hv,hm4⟩:=Dmz.imp (x:=x) (v':=v') hgw HD1.o HD2.o HD3.o HD4.o HD6.o HD8.o HD9.o (But.of_below (S:=fun _=>False) hbl) (fun _ h=>h.elim) (by rw [HNI.o];exact hw4.mono (fun j _ h=>by simpa using h)) hb4;rw [HNI.o] at hv;subst hv;have hb24:But (fun j=>g + 1<=j) w2 w4:=(But.of_below (S:=fun j=>g + 1<=j) hbl).trans (hb4.mono (fun b _ hb=>hs1 b hb)) (fun _ _ h=>h);have HQ4:=aH (HQ2.o.but hb24 (by omega) (fun a ha=>by have:=HLO.o a ha;omega));have HU4:=aH (HU2.o.trans (hb24.mono (T:=fun j=>g<=j) (fun j _ h=>by omega)) (fun _ _ h=>h));have HQ5:=aH ((HIM.o x io' ic' _ HQ4.o).at (k + 2) (.int .i64 ((k:Int) + 1 + 1)) (by first | rfl | (congr 1;omega) | (congr 1)));have hbt:=((But.refl (fun j=>j=g) w4).setCell (p:=⟨g,3,none⟩) (fun _=>rfl) (.slice io' (n + 1) ic')).setCell (p:=⟨g,1,none⟩) (fun _=>rfl) (.int .i64 ((k:Int) + 1 + 1));have HU5:=aH (HU4.o.trans (hbt.mono (T:=fun j=>g<=j) (fun j _ e=>by omega)) (fun _ _ h=>h));have HM5:=aH (hm4.keep hbt (fun b hb=>.inl (by omega)));have c3:w4.cell? ⟨g,3,none⟩=some (.slice z.io z.m.im.length z.ic):=HQ4.o.1.cell 3;rw [HNI.o] at c3;have f3:w4.frozen? ⟨g,3,none⟩=false:=HQ4.o.1.thaw 3;have c1:w4.cell? ⟨g,1,none⟩=some (.int .i64 ((k + 1:Nat):Int)):=HQ4.o.1.cell 1;rw [show ((k + 1:Nat):Int)=(k:Int) + 1 from by omega] at c1;have f1:w4.frozen? ⟨g,1,none⟩=false:=HQ4.o.1.thaw 1;have cg:=HQ4.o.1.lt;clear hw4 hb4 hbl hs1 hgw hm4 hb24 hbt HU4 HQ4 HU2 HQ2 HM2 HD1 HD2 HD3 HD4 HD5 HD6 HD8 HD9 HW2 HNEW hi hz0 hz1 hz2;go_upto_region 11 with fail;clear c1 f1 c3 f3 cg;generalize World.setCell (World.setCell w4 _ _) _ _=w5 at *;go_wp2_with fail;refine (HM.o HL2.o _ _ HQ5.o).mono ?_;rintro e w6 ⟨hm,hu⟩;have HU6:=aH (HU5.o.trans (hu.mono (T:=fun j=>g<=j) (fun j _ e=>by omega)) (fun _ _ h=>h));have HM6:=aH (HM5.o.keep hu (fun b hb=>.inl (by omega)));clear hu
    cases hwd:wdB L (k + 2) 4 (⟨#[59]⟩:ByteArray).data.toList
    case false =>
     rw [hwd] at hm;obtain ⟨he,hq⟩:=hm;subst he;have HE:=aH (show RES=.error (gH L 2 (k + 2)) from by rw [HS3.o,show wdB L (k + 2) 4 [59]=false from hwd];rfl);have HQ:=aH hq;clear hq;go_wp2;go_ret;exact ⟨by rw [HE.o];exact ⟨rfl,(show (2:Int) ≠ 0 by decide),_,_,HL2.o,HQ.o⟩,HU6.o⟩
    case true =>
     rw [hwd] at hm;obtain ⟨he,hq⟩:=hm;subst he;have HE:=aH (show RES=.ok (x,k + 3) from by rw [HS3.o,show wdB L (k + 2) 4 [59]=true from hwd];rfl);have HQ:=aH hq;clear hq;go_wp2;go_ret;exact ⟨by rw [HE.o];exact ⟨rfl,io',ic',HQ.o,HM6.o⟩,HU6.o⟩
end Go.Proofs.YthkdnehgamefiaaGreat
