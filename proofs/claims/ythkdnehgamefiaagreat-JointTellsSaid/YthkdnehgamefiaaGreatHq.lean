import Derived.Test.YthkdnehgamefiaaGreatHp
namespace Go.Proofs.YthkdnehgamefiaaGreat
set_option linter.unusedVariables false
section
variable {P:Program} {ops:Array Oper} {Q:Exit->Act->World->Prop} {md:Region.Mode} {S:World->Prop}
theorem nM {i k:Nat} {fuel:Nat} {l:Array Bool} {a:Act} {w:World} (hr:Region.ready md ops l=[i,k]) (h1:wpOp P ops Q i (fun a' w'=>S w'/\wpAnyH P md ops Q S fuel (l.setIfInBounds i true) a' w') a w)
  (h2:wpOp P ops Q k (fun a' w'=>S w'/\wpAnyH P md ops Q S fuel (l.setIfInBounds k true) a' w') a w):wpAnyH P md ops Q S (fuel + 1) l a w :=
 wpAnyH_all hr (by simp) fun x hx=>by
  simp only [List.mem_cons,List.not_mem_nil,or_false] at hx;rcases hx with rfl | rfl
  · exact h1
  · exact h2
theorem A0J {i j k:Nat} {fuel:Nat} {l:Array Bool} {a:Act} {w:World} (hr:Region.ready md ops l=[i,j,k]) (h1:wpOp P ops Q i (fun a' w'=>S w'/\wpAnyH P md ops Q S fuel (l.setIfInBounds i true) a' w') a w)
  (h2:wpOp P ops Q j (fun a' w'=>S w'/\wpAnyH P md ops Q S fuel (l.setIfInBounds j true) a' w') a w)
  (h3:wpOp P ops Q k (fun a' w'=>S w'/\wpAnyH P md ops Q S fuel (l.setIfInBounds k true) a' w') a w):wpAnyH P md ops Q S (fuel + 1) l a w :=
 wpAnyH_all hr (by simp) fun x hx=>by
  simp only [List.mem_cons,List.not_mem_nil,or_false] at hx;rcases hx with rfl | rfl | rfl
  · exact h1
  · exact h2
  · exact h3
end
open Go.RowKit Go.Sort
theorem DL {NN:Nat} {L:List Tok} (HN:∀ k,(tkA L k).kd ≠ 0->k < NN) {s:List UInt8} {k m:Nat} (h:oO L s k=.ok m):m=k + 1/\m<=NN:=by
 unfold oO at h;split at h
 · rename_i hw;injection h with h;subst h;unfold wdB at hw;rw [Bool.and_eq_true,beq_iff_eq] at hw;exact ⟨rfl,HN k (by rw [hw.1];decide)⟩
 · cases h
theorem A5H {NN:Nat} {L:List Tok} (HN:∀ k,(tkA L k).kd ≠ 0->k < NN) {k m:Nat} {x:Ex} (h:uW L k=.ok (x,m)):k < m/\m<=NN:=by
 unfold uW at h
 cases h1:oO L [61] k with
 | error e=>simp [h1] at h
 | ok k1 =>
  have b1:=DL HN h1;simp only [h1] at h
  cases h2:rdO L k1 with
  | error e=>simp [h2] at h
  | ok p =>
   obtain ⟨y,j⟩:=p;simp only [h2] at h;have b2:k1 < j/\j<=NN:=by
    unfold rdO at h2
    cases h4:exO L 12 k1 with
    | error e=>simp [h4] at h2
    | ok q =>
     obtain ⟨z,i⟩:=q;have:=Jg HN 12 k1 z i h4;simp only [h4] at h2;split at h2
     · unfold jW at h2;cases h2
     · injection h2 with h2;injection h2 with _ h3;omega
   cases h3:oO L [59] j with
   | error e=>simp [h3] at h
   | ok j' =>
    have b3:=DL HN h3;simp only [h3] at h;injection h with h;injection h with _ h;omega
theorem B8d {NN:Nat} {L:List Tok} (HN:∀ k,(tkA L k).kd ≠ 0->k < NN) {k m:Nat} {x:Ex} (h:rdO L k=.ok (x,m)):k < m/\m<=NN:=by
 unfold rdO at h
 cases h4:exO L 12 k with
 | error e=>simp [h4] at h
 | ok q =>
  obtain ⟨z,i⟩:=q;have:=Jg HN 12 k z i h4;simp only [h4] at h;split at h
  · unfold jW at h;cases h
  · injection h with h;injection h with _ h3;omega
def B7f (x:Ex):Except Ft2 Nat->Rs
 | .error e=>.error e
 | .ok m'=>.ok (x,m')
def B7e (L:List Tok):Rs->Rs
 | .error e=>.error e
 | .ok (x,m)=>B7f x (oO L [59] m)
def B9Z (L:List Tok):Except Ft2 Nat->Rs
 | .error e=>.error e
 | .ok k1=>B7e L (rdO L k1)
theorem B7a (L:List Tok) (k:Nat):uW L k=B9Z L (oO L [61] k):=by
 unfold uW
 cases oO L [61] k with
 | error e=>rfl
 | ok k1 =>
  show _=B7e L (rdO L k1)
  cases h:rdO L k1 with
  | error e=>simp only [h];rfl
  | ok p =>
   obtain ⟨x,m⟩:=p;simp only [h];show _=B7f x (oO L [59] m)
   cases h2:oO L [59] m <;> rfl
theorem iO {w:World} {g:Nat} {v0 v1 v2 v3:Value} (h:Own w g 44 [v0,v1,v2,v3]) (a b:Int) :
  (Instr.storeAt 44 (.pointer (some ⟨g,0,none⟩)) (.agg #[.int .i64 a,.int .i64 b,.int .i64 0,.int .i64 0])).run Tryz.prog w=.ok () (set4 w g (.int .i64 a) (.int .i64 b) (.int .i64 0) (.int .i64 0)):=by
 obtain ⟨z0,z1,z2,z3,y0,y1,y2,y3⟩:=h.four;have zl:=h.lt;rw [<- aW];go_simp
def RdR (r:Rs) (lo hi:Nat) (X:Ex) (ko:Option Addr) (m f1 f2:Int) (w:World):Prop:=match r with
 | .ok (x,j)=>X=x/\m=(j:Int)/\f1=0/\f2=0/\∃ n,fM w (fun b=>lo<=b/\b < hi) n ko x.kids
 | .error f=>f1=f.1/\f2=f.2/\f.1 ≠ 0
theorem RdR.keep {S:Nat->Prop} {r:Rs} {lo hi:Nat} {X:Ex} {ko:Option Addr} {m f1 f2:Int} {w w':World} (h:RdR r lo hi X ko m f1 f2 w) (hb:But S w w') (hS:∀ b,S b->b < lo\/hi<=b):RdR r lo hi X ko m f1 f2 w':=by
 cases r with
 | error f=>exact h
 | ok p =>
  obtain ⟨x,j⟩:=p;obtain ⟨e1,e2,e3,e4,n,h3⟩:=h;exact ⟨e1,e2,e3,e4,n,h3.but hb fun b _ hr hs=>by have:=hS b hs;omega⟩
theorem RdR.of {r:Rs} {D:Nat} {e:Ending} {w':World} (h:RdE D r e w'):∃ (X:Ex) (ko:Option Addr) (kc:Nat) (m f1 f2:Int),e=.returned (.tuple #[.agg #[.int .i64 X.op,.string X.text,.int .u64 X.s0,.int .u64 X.s1,.int .u64 X.s2,.int .u64 X.s3,.slice ko X.kids.length kc],.int .i64 m,.agg #[.int .i64 f1,.int .i64 f2,.int .i64 0,.int .i64 0]])/\RdR r D w'.heap.size X ko m f1 f2 w':=by
 cases r with
 | error f =>
  obtain ⟨h1,h2⟩:=h;exact ⟨ex0,none,0,0,f.1,f.2,h1,rfl,rfl,h2⟩
 | ok p =>
  obtain ⟨x,j⟩:=p;obtain ⟨ko,kc,n,h1,h2⟩:=h;exact ⟨x,ko,kc,j,0,0,h1,rfl,rfl,rfl,rfl,n,fM.ofE h2⟩
def C0z (D g:Nat) (lo:Option Addr) (lc:Nat) (L:List Tok) (r:Rs) (X:Ex) (ko:Option Addr) (w':World):Prop:=match r with
 | .ok (x,m)=>Pd w' g lo lc L m none/\x=X/\∃ n,dD w' D n ko X.kids
 | .error f=>∃ k',k' < L.length/\Pd w' g lo lc L k' (some f)
theorem Pd.fin {w w3:World} {g N k0 k:Nat} {lo:Option Addr} {lc:Nat} {L:List Tok} {F0 F:Option Ft2} (H0:Pd w g lo lc L k0 F0) (hN:w.heap.size<=N) (HU:But (fun j=>j=g) w w3) (H3:Pd w3 g lo lc L k F) (u0 u1 u2 u3 u4 u5 u6:Value) :
  But (fun j=>j=g) w (bI w3 N u0 u1 u2 u3 u4 u5 u6)/\Pd (bI w3 N u0 u1 u2 u3 u4 u5 u6) g lo lc L k F:=by
 have hU:But (fun j=>j=g) w (bI w3 N u0 u1 u2 u3 u4 u5 u6):=HU.trans (But.set7 w3 N u0 u1 u2 u3 u4 u5 u6) (fun j hj e=>by omega);have hg:=H0.1.lt;exact ⟨hU,H3.1.but (But.set7 w3 N u0 u1 u2 u3 u4 u5 u6) (by omega),H0.2.1.but H0.2.2.1 hU,H0.2.2.1,H3.2.2.2⟩
theorem Pd.butx {S:Nat->Prop} {w w2 w3:World} {g k0 k:Nat} {lo:Option Addr} {lc:Nat} {L:List Tok} {F0 F:Option Ft2} (H0:Pd w g lo lc L k0 F0) (HU:But (fun j=>j=g) w w3) (H2:Pd w2 g lo lc L k F) (hb:But S w2 w3) (hS:¬ S g):Pd w3 g lo lc L k F :=
 ⟨H2.1.but hb hS,H0.2.1.but H0.2.2.1 HU,H0.2.2.1,H2.2.2.2⟩
set_option maxRecDepth 1000000 in
set_option maxHeartbeats 1600000 in
theorem B2D (NN g:Nat) (lo:Option Addr) (lc:Nat) (L:List Tok) (k:Nat) (hn:(L.length:Int)<=90000) (hk:k < L.length) (htx:∀ t ∈ L,t.tx.size<=1000000) (hNN:NN < L.length) (HNB:∀ k,(tkA L k).kd ≠ 0->k < NN) (w:World) (h:Pd w g lo lc L k none) :
  Calls Tryz.prog 50 #[.pointer (some ⟨g,0,none⟩)] w fun e w'=>But (fun j=>j=g) w w'/\∃ X ko kc,e=.returned (exv X ko kc)/\C0z w.heap.size g lo lc L (uW L k) X ko w':=by
 have HH:=aH h;have HBB:=aH HNB;have HSG:=aH (fun (s:ByteArray) (m:Nat) (hm:m < L.length) W (hW:Pd W g lo lc L m none)=>B2F s g lo lc L m hn hm W hW);have HRD:=aH (fun (m:Nat) (hm:m < L.length) W (hW:sO W lo L)=>Qt lo lc L m hn hm htx W hW);have HR:=aH (Own.fresh w 32 [.int .i64 0,.string ⟨#[]⟩,.int .u64 0,.int .u64 0,.int .u64 0,.int .u64 0,.slice none 0 0]);have H1:=aH (h.below (bA (.cells #[.int .i64 0,.string ⟨#[]⟩,.int .u64 0,.int .u64 0,.int .u64 0,.int .u64 0,.slice none 0 0] 32)));have HU:=aH (But.of_below (S:=fun j=>j=g) ((Below.refl w.heap.size w).alloc (Nat.le_refl _) (.cells #[.int .i64 0,.string ⟨#[]⟩,.int .u64 0,.int .u64 0,.int .u64 0,.int .u64 0,.slice none 0 0] 32)));have HGN:=aH (show g < w.heap.size from h.1.lt);obtain ⟨r1,hr1⟩:∃ r,oO L [61] k=r:=⟨_,rfl⟩;have HR1:=aH hr1;have HSP:=aH (show uW L k=B9Z L r1 from by rw [B7a,hr1]);generalize uW L k=RES at *;have HS1:=aH (HSG.o ⟨#[61]⟩ k hk);rw [show (⟨#[61]⟩:ByteArray).data.toList=[61] from rfl,hr1] at HS1;clear h htx HNB hr1;go_enter Tryz.func50,Tryz.ntmps50;go_upto_region 1 with fail;generalize World.alloc w _=w1 at *;obtain ⟨N,hN⟩:∃ N,w.heap.size=N:=⟨_,rfl⟩;rw [hN] at HR HGN;rw [hN];have HNN:=aH hN;clear hN;go_wp2_with fail;refine (HS1.o _ H1.o).mono ?_;rintro e w2 ⟨rfl,hbu,hp⟩;have HR2:=aH (HR.o.but hbu (by have:=HGN.o;omega));have HU2:=aH (HU.o.trans hbu (fun _ _ h=>h));have HP2:=aH hp;clear hbu hp HR HU H1 HS1
 cases r1
 case error f =>
  have HP3:=aH (show Pd w2 g lo lc L k (some f) from HP2.o);have HE:=aH (show RES=.error f from HSP.o);obtain ⟨c0,c1,c2,c3,c4,c5,cg⟩:=HP3.o.1.six_r;have c2':w2.cell? ⟨g,2,none⟩=some (.int .i64 f.1):=c2;have ef:(f.1 != 0)=true:=bne_iff_ne.2 (HP3.o.2.2.2 f rfl);clear c0 c1 c2 c3 c4 c5;obtain ⟨z0,z1,z2,z3,z4,z5,z6,y0,y1,y2,y3,y4,y5,y6⟩:=HR2.o.seven2;have zl:=HR2.o.lt;go_wp2;rw [aU];have HF:=(fZ (p7 HR2.o));obtain ⟨hU,hR⟩:=fZ (Pd.fin HH.o (Nat.le_of_eq HNN.o) HU2.o HP3.o);have HBW:=aH (fZ (But.set7 w2 N));clear z0 z1 z2 z3 z4 z5 z6 y0 y1 y2 y3 y4 y5 y6;generalize bI _ N _ _ _ _ _ _ _=w99 at *;obtain ⟨z0,z1,z2,z3,z4,z5,z6⟩:=HF.seven;refine bodyPost_ret (by simp [results,Tryz.results50,go_sem,z0,z1,z2,z3,z4,z5,z6];rfl) rfl ?_;rw [HE.o,HNN.o];exact ⟨hU,ex0,none,0,rfl,⟨k,hk,hR⟩⟩
 case ok k1 =>
  have HP3:=aH (show Pd w2 g lo lc L k1 none from HP2.o);obtain ⟨hk1,hk1N⟩:=DL HBB.o HR1.o;have hk1L:k1 < L.length:=by omega
  clear hk1;obtain ⟨r,hr⟩:∃ r,rdO L k1=r:=⟨_,rfl⟩;have HRR:=aH hr;have HRC:=aH (HRD.o k1 hk1L);have HSR:=aH (show RES=B7e L r from by rw [HSP.o,<- hr];rfl);rw [hr] at HRC;obtain ⟨c0,c1,c2,c3,c4,c5,cg⟩:=HP3.o.1.six_r;have c2':w2.cell? ⟨g,2,none⟩=some (.int .i64 0):=c2;have HPb:=aH (HP3.o.below (Below.refl _ _).drew);have HRb:=aH HR2.o.on_drew;have HUb:=aH HU2.o.drew;obtain ⟨n,hnn⟩:∃ n,L.length=n:=⟨_,rfl⟩;rw [hnn] at c0 HRC;have HLN:=aH hnn;clear c3 c4 c5 c2 HP2 hr HRD HR1 hnn;go_upto_region 4 with fail;have HGB:=aH (show g < w2.heap.size from cg);clear c0 c1 c2' cg HP3 HR2 HU2
  go_cut [3,4,5] (fun b3 b4 b5 wx=>∃ (A B:Nat) (X:Ex) (ko:Option Addr) (kc:Nat) (m f1 f2:Int),b3=.pointer (some ⟨A,0,none⟩)/\b4=.int .i64 m/\b5=.pointer (some ⟨B,0,none⟩) ∧
   aQ (Own wx A 32 [.int .i64 X.op,.string X.text,.int .u64 X.s0,.int .u64 X.s1,.int .u64 X.s2,.int .u64 X.s3,.slice ko X.kids.length kc])/\aQ (Own wx B 44 [.int .i64 f1,.int .i64 f2,.int .i64 0,.int .i64 0])/\aQ (But (fun j=>j=g) w wx)/\aQ (Pd wx g lo lc L k1 none)/\aQ (Own wx N 32 [.int .i64 0,.string ⟨#[]⟩,.int .u64 0,.int .u64 0,.int .u64 0,.int .u64 0,.slice none 0 0]) ∧
   aQ (A ≠ B/\w2.heap.size<=A/\w2.heap.size<=B)/\aQ (∃ l h,w2.heap.size<=l/\RdR r l h X ko m f1 f2 wx))
  case first =>
   refine wp_region_held (S:=fun Wx=>g < Wx.heap.size/\Wx.cell? ⟨g,0,none⟩=some (.slice lo n lc)/\Wx.cell? ⟨g,1,none⟩=some (.int .i64 (k1:Int))) (by kernel_rfl) ?_;change wpAnyH _ _ _ _ _ _ _ _ (World.drew _);have HZb:=aH (show w2.drew.heap.size=w2.heap.size from rfl);generalize World.drew _=wb at *;have HS:=aH (show g < wb.heap.size/\wb.cell? ⟨g,0,none⟩=some (.slice lo n lc)/\wb.cell? ⟨g,1,none⟩=some (.int .i64 (k1:Int)) from ⟨HPb.o.1.lt,by rw [<- HLN.o];exact HPb.o.1.cell 0,HPb.o.1.cell 1⟩);have HB0:=aH (Below.refl wb.heap.size wb);refine tB 0 rfl HS.o ?_;go_simp;refine tB 1 rfl HS.o ?_;go_simp;refine tB 2 rfl HS.o ?_;go_simp;refine tB 3 rfl HS.o ?_;go_simp;refine tB 4 rfl HS.o ?_;go_simp;refine tB 5 rfl HS.o ?_;go_simp;refine tB 6 rfl HS.o ?_;go_simp;refine tB 7 rfl HS.o ?_;go_simp;obtain ⟨wq0,hq0⟩:∃ z,wb.heap.size=z:=⟨_,rfl⟩;have HQ0:=aH hq0;obtain ⟨wq,hwq⟩:∃ z,z=wb:=⟨_,rfl⟩;have HB:aQ (Below wb.heap.size wb wq):=aH (by rw [hwq];exact Below.refl _ _);rw [<- hwq] at HS ⊢;clear hwq hq0 HB0;refine A0J (i:=8) (j:=13) (k:=14) (by kernel_rfl) ?_ ?_ ?_
   iterate 3
    all_goals
     first
      | (refine bB (f:=82) (vs:=#[.slice lo n lc,.int .i64 (k1:Int)]) rfl (by kernel_rfl) ?_ ?_
         focus (go_simp;done)
         refine (HRC.o wq (HPb.o.2.1.below HB.o)).mono ?_;rintro e wz ⟨hre,hbw⟩;obtain ⟨X,ko,kc,m,f1,f2,rfl,hrr⟩:=RdR.of hre;have HBY:=aH hbw;obtain ⟨l1,hl1⟩:∃ z,wq.heap.size=z:=⟨_,rfl⟩;obtain ⟨h1,hh1⟩:∃ z,wz.heap.size=z:=⟨_,rfl⟩;have HLO:=aH (show wq0<=l1/\h1<=wz.heap.size from ⟨by have:=HB.o.size;have:=HQ0.o;omega,by omega⟩);try have HEV:=aH (show A < l1\/h1<=A from .inl (by have:=HE.o.lt;omega))
         try have HFV:=aH (show B < l1\/h1<=B from .inl (by have:=HF.o.lt;omega))
         rw [hl1,hh1] at hrr;have HVR:=aH hrr;clear hre hbw hrr hl1 hh1;have HS:=aH (show g < wz.heap.size/\wz.cell? ⟨g,0,none⟩=some (.slice lo n lc)/\wz.cell? ⟨g,1,none⟩=some (.int .i64 (k1:Int)) from ⟨aL HS.o.1 HBY.o.size,aC HS.o.2.1 HBY.o,aC HS.o.2.2 HBY.o⟩);have HB:=aH (HB.o.trans (HBY.o.mono HB.o.size));try have HE:=aH (HE.o.under HBY.o HE.o.lt)
         try have HF:=aH (HF.o.under HBY.o HF.o.lt)
         refine ⟨_,rfl,HS.o,?_⟩;clear HBY
         rename World=>wq
         go_simp;refine tB 9 rfl HS.o ?_;go_simp;refine tB 10 rfl HS.o ?_;go_simp;refine tB 11 rfl HS.o ?_;go_simp;refine tB 12 rfl HS.o ?_
         go_simp)
      | (refine aY (v:=.pointer (some ⟨wq.heap.size,0,none⟩)) (w':=wq.alloc (.cells #[.int .i64 0,.string ⟨#[]⟩,.int .u64 0,.int .u64 0,.int .u64 0,.int .u64 0,.slice none 0 0] 32)) rfl (by kernel_rfl) ?_ ?_
         focus (go_simp;done)
         have HBY:=aH (show Below wq.heap.size wq (wq.alloc (.cells #[.int .i64 0,.string ⟨#[]⟩,.int .u64 0,.int .u64 0,.int .u64 0,.int .u64 0,.slice none 0 0] 32)) from bA _);have HE:=aH (Own.fresh wq 32 [.int .i64 0,.string ⟨#[]⟩,.int .u64 0,.int .u64 0,.int .u64 0,.int .u64 0,.slice none 0 0]);generalize wq.alloc (.cells #[.int .i64 0,.string ⟨#[]⟩,.int .u64 0,.int .u64 0,.int .u64 0,.int .u64 0,.slice none 0 0] 32)=wz at *;obtain ⟨A,hA⟩:∃ z,wq.heap.size=z:=⟨_,rfl⟩;rw [hA] at HE;try rw [hA]
         have HEQ:=aH (show wq0<=A by have:=HB.o.size;have:=HQ0.o;omega);try have HEV:=aH (show A < l1\/h1<=A from .inr (by have:=HLO.o.2;omega))
         try have HAB:=aH (show A ≠ B by have:=HF.o.lt;omega)
         clear hA;have HS:=aH (show g < wz.heap.size/\wz.cell? ⟨g,0,none⟩=some (.slice lo n lc)/\wz.cell? ⟨g,1,none⟩=some (.int .i64 (k1:Int)) from ⟨aL HS.o.1 HBY.o.size,aC HS.o.2.1 HBY.o,aC HS.o.2.2 HBY.o⟩);have HB:=aH (HB.o.trans (HBY.o.mono HB.o.size));try have HF:=aH (HF.o.under HBY.o HF.o.lt)
         try have HVR:=aH (HVR.o.keep (S:=fun _=>False) (But.of_below HBY.o) (fun _ h=>h.elim))
         try have HLO:=aH (show wq0<=l1/\h1<=wz.heap.size from ⟨HLO.o.1,Nat.le_trans HLO.o.2 HBY.o.size⟩)
         refine ⟨HS.o,?_⟩;clear HBY
         rename World=>wq
         go_simp)
      | (refine aY (v:=.pointer (some ⟨wq.heap.size,0,none⟩)) (w':=wq.alloc (.cells #[.int .i64 0,.int .i64 0,.int .i64 0,.int .i64 0] 44)) rfl (by kernel_rfl) ?_ ?_
         focus (go_simp;done)
         have HBY:=aH (show Below wq.heap.size wq (wq.alloc (.cells #[.int .i64 0,.int .i64 0,.int .i64 0,.int .i64 0] 44)) from bA _);have HF:=aH (Own.fresh wq 44 [.int .i64 0,.int .i64 0,.int .i64 0,.int .i64 0]);generalize wq.alloc (.cells #[.int .i64 0,.int .i64 0,.int .i64 0,.int .i64 0] 44)=wz at *;obtain ⟨B,hB⟩:∃ z,wq.heap.size=z:=⟨_,rfl⟩;rw [hB] at HF;try rw [hB]
         have HFQ:=aH (show wq0<=B by have:=HB.o.size;have:=HQ0.o;omega);try have HFV:=aH (show B < l1\/h1<=B from .inr (by have:=HLO.o.2;omega))
         try have HAB:=aH (show A ≠ B by have:=HE.o.lt;omega)
         clear hB;have HS:=aH (show g < wz.heap.size/\wz.cell? ⟨g,0,none⟩=some (.slice lo n lc)/\wz.cell? ⟨g,1,none⟩=some (.int .i64 (k1:Int)) from ⟨aL HS.o.1 HBY.o.size,aC HS.o.2.1 HBY.o,aC HS.o.2.2 HBY.o⟩);have HB:=aH (HB.o.trans (HBY.o.mono HB.o.size));try have HE:=aH (HE.o.under HBY.o HE.o.lt)
         try have HVR:=aH (HVR.o.keep (S:=fun _=>False) (But.of_below HBY.o) (fun _ h=>h.elim))
         try have HLO:=aH (show wq0<=l1/\h1<=wz.heap.size from ⟨HLO.o.1,Nat.le_trans HLO.o.2 HBY.o.size⟩)
         refine ⟨HS.o,?_⟩;clear HBY
         rename World=>wq
         go_simp)
     first | (refine nM (i:=13) (k:=14) (by decide +kernel) ?_ ?_) | (refine nM (i:=8) (k:=14) (by decide +kernel) ?_ ?_) | (refine nM (i:=8) (k:=13) (by decide +kernel) ?_ ?_) | (refine bE (i:=14) (by decide +kernel) ?_) | (refine bE (i:=13) (by decide +kernel) ?_) | (refine bE (i:=8) (by decide +kernel) ?_) | skip
   all_goals
    have HNQ:=aH (show N < wb.heap.size from HRb.o.lt);have HSW:=aH (show wb.heap.size<=A/\wb.heap.size<=B from by have:=HEQ.o;have:=HFQ.o;have:=HQ0.o;omega);have HST:=aH (fH HE.o X.op X.text X.s0 X.s1 X.s2 X.s3 ko X.kids.length kc);have HB7:=aH (fX (But.set7 wq A) X ko kc);have HA5:=aH ((fX (p7 HE.o) X ko kc));obtain ⟨w5,hw5⟩:∃ w5,bI wq A (.int .i64 X.op) (.string X.text) (.int .u64 X.s0) (.int .u64 X.s1) (.int .u64 X.s2) (.int .u64 X.s3) (.slice ko X.kids.length kc)=w5:=⟨_,rfl⟩;rw [hw5] at HST HB7 HA5;clear hw5;have HSZ:=aH (show w2.heap.size<=A/\w2.heap.size<=B/\w2.heap.size<=l1 from by have:=HEQ.o;have:=HFQ.o;have:=HLO.o.1;have:=HQ0.o;have:=HZb.o;omega);have HF5:=aH (HF.o.but HB7.o (fun e=>HAB.o e.symm));have HU5:=aH (show But (fun j=>j=g) w w5 from (HUb.o.then_below HB.o).trans HB7.o (fun j hj e=>by have:=HSW.o;have:=HUb.o.size;omega));have HP5:=aH (Pd.butx HH.o HU5.o (HPb.o.below HB.o) HB7.o (by have:=HPb.o.1.lt;have:=HSW.o;omega));have HV5:=aH (HVR.o.keep HB7.o (fun b hb=>by have:=HEV.o;omega));refine bE (i:=15) (by kernel_rfl) (eX rfl (by kernel_rfl) _ _ _ rfl (.pointer (some ⟨A,0,none⟩)) (.agg #[.int .i64 X.op,.string X.text,.int .u64 X.s0,.int .u64 X.s1,.int .u64 X.s2,.int .u64 X.s3,.slice ko X.kids.length kc]) rfl rfl HST.o ?_);clear HS;have HS:=aH (show g < w5.heap.size/\w5.cell? ⟨g,0,none⟩=some (.slice lo n lc)/\w5.cell? ⟨g,1,none⟩=some (.int .i64 (k1:Int)) from ⟨HP5.o.1.lt,by rw [<- HLN.o];exact HP5.o.1.cell 0,HP5.o.1.cell 1⟩);refine ⟨HS.o,?_⟩;go_simp;refine tB 16 rfl HS.o ?_;go_simp;have HST4:=aH (iO HF5.o f1 f2);have HB8:=aH (But.set4 w5 B (.int .i64 f1) (.int .i64 f2) (.int .i64 0) (.int .i64 0));have HB6:=aH ((p4 HF5.o (.int .i64 f1) (.int .i64 f2) (.int .i64 0) (.int .i64 0)));obtain ⟨w6,hw6⟩:∃ w6,set4 w5 B (.int .i64 f1) (.int .i64 f2) (.int .i64 0) (.int .i64 0)=w6:=⟨_,rfl⟩;rw [hw6] at HST4 HB8 HB6;clear hw6;have HA6:=aH (HA5.o.but HB8.o HAB.o);have HU6:=aH (show But (fun j=>j=g) w w6 from HU5.o.trans HB8.o (fun j hj e=>by have:=HSW.o;have:=HUb.o.size;omega));have HP6:=aH (Pd.butx HH.o HU6.o HP5.o HB8.o (by have:=HPb.o.1.lt;have:=HSW.o;omega));have HR6:=aH (((HRb.o.under HB.o HRb.o.lt).but HB7.o (by have:=HSW.o;have:=HNQ.o;omega)).but HB8.o (by have:=HSW.o;have:=HNQ.o;omega));have HV6:=aH (HV5.o.keep HB8.o (fun b hb=>by have:=HFV.o;omega));refine bE (i:=17) (by kernel_rfl) (eX rfl (by kernel_rfl) _ _ _ rfl (.pointer (some ⟨B,0,none⟩)) (.agg #[.int .i64 f1,.int .i64 f2,.int .i64 0,.int .i64 0]) rfl rfl HST4.o ?_);refine ⟨⟨HP6.o.1.lt,by rw [<- HLN.o];exact HP6.o.1.cell 0,HP6.o.1.cell 1⟩,?_⟩;refine wpAnyH_done (by kernel_rfl) ?_ _;go_wp2_with fail
    go_meet
    exact ⟨A,B,X,ko,kc,m,f1,f2,rfl,rfl,rfl,HA6,HB6,HU6,HP6,HR6,aH ⟨HAB.o,HSZ.o.1,HSZ.o.2.1⟩,aH ⟨_,_,HSZ.o.2.2,HV6.o⟩⟩
  case rest =>
   obtain ⟨A,B,X,ko,kc,m,f1,f2,rfl,rfl,rfl,HA6,HB6,HU6,HP6,HR6,HABS,HLR⟩:=hcut;obtain ⟨l0,h0,hl0,hvr⟩:=HLR.o;have HVR:=aH hvr;have HL0:=aH hl0;have HAD:=aH (show w2.heap.size<=A from HABS.o.2.1);have HBD:=aH (show w2.heap.size<=B from HABS.o.2.2);have HNB:=aH (show N < w2.heap.size from HRb.o.lt);clear hvr hl0 HLR HPb HRb HUb HRC
   cases r
   case error f =>
    obtain ⟨rfl,rfl,hf0⟩:=HVR.o;have HNF:=aH hf0;have HE:=aH (show RES=.error f from HSR.o);obtain ⟨c0,c1,c2,c3,c4,c5,cg⟩:=HP6.o.1.six_r;have c2':wc.cell? ⟨g,2,none⟩=some (.int .i64 0):=c2;have c3':wc.cell? ⟨g,3,none⟩=some (.int .i64 0):=c3;obtain ⟨d1,d2,d3,d4,d5⟩:=HP6.o.1.six_f;obtain ⟨b0,b1,b2,b3,-⟩:=HB6.o.four;have bl:=HB6.o.lt;have ef:(f.1 != 0)=true:=bne_iff_ne.2 hf0;have ngB:¬ g=B:=(by have:=HGB.o;have:=HBD.o;omega);have nBg:¬ B=g:=fun e=>ngB e.symm;have HP7:=aH (HP6.o.fault f HNF.o);have HU7:=aH (((((HU6.o.setCell (p:=⟨g,2,none⟩) (fun _=>rfl) (.int .i64 f.1)).setCell (p:=⟨g,3,none⟩) (fun _=>rfl) (.int .i64 f.2)).setCell (p:=⟨g,4,none⟩) (fun _=>rfl) (.int .i64 0)).setCell (p:=⟨g,5,none⟩) (fun _=>rfl) (.int .i64 0)));have HR7:=aH ((((HR6.o.off (p:=⟨g,2,none⟩) (by have:=HGN.o;show N ≠ g;omega) (.int .i64 f.1)).off (p:=⟨g,3,none⟩) (by have:=HGN.o;show N ≠ g;omega) (.int .i64 f.2)).off (p:=⟨g,4,none⟩) (by have:=HGN.o;show N ≠ g;omega) (.int .i64 0)).off (p:=⟨g,5,none⟩) (by have:=HGN.o;show N ≠ g;omega) (.int .i64 0));clear c2 c3 hf0;go_upto_region 7 with fail;clear c0 c1 c2' c3' c4 c5 cg d1 d2 d3 d4 d5 b0 b1 b2 b3 bl HB6 HA6 HP6 HU6 HR6;generalize World.setCell (World.setCell (World.setCell (World.setCell wc _ _) _ _) _ _) _ _=w7 at *;obtain ⟨z0,z1,z2,z3,z4,z5,z6,y0,y1,y2,y3,y4,y5,y6⟩:=HR7.o.seven2;have zl:=HR7.o.lt;go_wp2;rw [aU];have HF:=(fZ (p7 HR7.o));obtain ⟨hU,hR⟩:=fZ (Pd.fin HH.o (Nat.le_of_eq HNN.o) HU7.o HP7.o);have HBW:=aH (fZ (But.set7 w7 N));clear z0 z1 z2 z3 z4 z5 z6 y0 y1 y2 y3 y4 y5 y6;generalize bI _ N _ _ _ _ _ _ _=w99 at *;obtain ⟨z0,z1,z2,z3,z4,z5,z6⟩:=HF.seven;refine bodyPost_ret (by simp [results,Tryz.results50,go_sem,z0,z1,z2,z3,z4,z5,z6];rfl) rfl ?_;rw [HE.o,HNN.o];exact ⟨hU,ex0,none,0,rfl,⟨k1,hk1L,hR⟩⟩
   case ok pq =>
    obtain ⟨x,j⟩:=pq;obtain ⟨rfl,rfl,rfl,rfl,n3,hT3⟩:=HVR.o;have HT6:=aH (show dD wc w2.heap.size n3 ko X.kids from hT3.toE (fun b hb=>by have:=HL0.o;omega));obtain ⟨hj1,hj2⟩:=B8d HBB.o HRR.o;have hjL:j < L.length:=(by omega);obtain ⟨r2,hr2⟩:∃ r,oO L [59] j=r:=⟨_,rfl⟩;have HSQ:=aH (show RES=B7f X r2 from by rw [HSR.o,<- hr2];rfl);have HS2:=aH (HSG.o ⟨#[59]⟩ j hjL);rw [show (⟨#[59]⟩:ByteArray).data.toList=[59] from rfl,hr2] at HS2;obtain ⟨c0,c1,c2,c3,c4,c5,cg⟩:=HP6.o.1.six_r;obtain ⟨d1,d2,d3,d4,d5⟩:=HP6.o.1.six_f;obtain ⟨b0,b1,b2,b3,-⟩:=HB6.o.four;have bl:=HB6.o.lt;have HP7:=aH (HP6.o.at1 j (.int .i64 (j:Int)) rfl);have HU7:=aH (HU6.o.setCell (p:=⟨g,1,none⟩) (fun _=>rfl) (.int .i64 (j:Int)));have HR7:=aH (HR6.o.off (p:=⟨g,1,none⟩) (by have:=HGN.o;show N ≠ g;omega) (.int .i64 (j:Int)));have HA7:=aH (HA6.o.off (p:=⟨g,1,none⟩) (by have:=HGB.o;have:=HAD.o;show A ≠ g;omega) (.int .i64 (j:Int)));have HT7:=aH (dD.but ((But.refl (fun i=>i=g) wc).setCell (p:=⟨g,1,none⟩) (fun _=>rfl) (.int .i64 (j:Int))) (fun i hi=>by have:=HGB.o;omega) HT6.o);clear c2 c3 c4 c5 d2 d3 d4 d5 hT3 hr2;go_upto_region 9 with fail;clear c0 c1 cg d1 b0 b1 b2 b3 bl HB6 HA6 HP6 HU6 HR6 HT6;generalize World.setCell wc _ _=w7 at *;go_wp2_with fail;refine (HS2.o _ HP7.o).mono ?_;rintro e w8 ⟨rfl,hbu,hp⟩;have HR8:=aH (HR7.o.but hbu (by have:=HGN.o;omega));have HU8:=aH (HU7.o.trans hbu (fun _ _ h=>h));have HA8:=aH (HA7.o.but hbu (by have:=HGB.o;have:=HAD.o;omega));have HT8:=aH (dD.but hbu (fun i hi=>by have:=HGB.o;omega) HT7.o);have HP8:=aH hp;have nNA:¬ N=A:=(by have:=HNB.o;have:=HAD.o;omega);have nAN:¬ A=N:=fun e=>nNA e.symm;obtain ⟨m0,m1,m2,m3,m4,m5,m6,-⟩:=HA8.o.seven2;have ml:=HA8.o.lt;clear hbu hp HR7 HU7 HA7 HT7 HP7 HS2
    cases r2
    case error f =>
     have HE:=aH (show RES=.error f from HSQ.o);have HP9:=aH (show Pd w8 g lo lc L j (some f) from HP8.o);obtain ⟨z0,z1,z2,z3,z4,z5,z6,y0,y1,y2,y3,y4,y5,y6⟩:=HR8.o.seven2;have zl:=HR8.o.lt;go_wp2;rw [aU];have HF:=(fX (p7 HR8.o) X ko kc);obtain ⟨hU,hR⟩:=fX (Pd.fin HH.o (Nat.le_of_eq HNN.o) HU8.o HP9.o) X ko kc;have HBW:=aH (fX (But.set7 w8 N) X ko kc);clear z0 z1 z2 z3 z4 z5 z6 y0 y1 y2 y3 y4 y5 y6;generalize bI _ N _ _ _ _ _ _ _=w99 at *;obtain ⟨z0,z1,z2,z3,z4,z5,z6⟩:=HF.seven;refine bodyPost_ret (by simp [results,Tryz.results50,go_sem,z0,z1,z2,z3,z4,z5,z6];rfl) rfl ?_;rw [HE.o,HNN.o];exact ⟨hU,X,ko,kc,rfl,j,hjL,hR⟩
    case ok j' =>
     have HE:=aH (show RES=.ok (X,j') from HSQ.o);have HP9:=aH (show Pd w8 g lo lc L j' none from HP8.o);obtain ⟨z0,z1,z2,z3,z4,z5,z6,y0,y1,y2,y3,y4,y5,y6⟩:=HR8.o.seven2;have zl:=HR8.o.lt;go_wp2;rw [aU];have HF:=(fX (p7 HR8.o) X ko kc);obtain ⟨hU,hR⟩:=fX (Pd.fin HH.o (Nat.le_of_eq HNN.o) HU8.o HP9.o) X ko kc;have HBW:=aH (fX (But.set7 w8 N) X ko kc);clear z0 z1 z2 z3 z4 z5 z6 y0 y1 y2 y3 y4 y5 y6;generalize bI _ N _ _ _ _ _ _ _=w99 at *;obtain ⟨z0,z1,z2,z3,z4,z5,z6⟩:=HF.seven;refine bodyPost_ret (by simp [results,Tryz.results50,go_sem,z0,z1,z2,z3,z4,z5,z6];rfl) rfl ?_;rw [HE.o,HNN.o];exact ⟨hU,X,ko,kc,rfl,hR,rfl,n3,dD.low (by have:=HNB.o;omega) (dD.but HBW.o (fun i hi=>by have:=HNB.o;omega) HT8.o)⟩
end Go.Proofs.YthkdnehgamefiaaGreat
