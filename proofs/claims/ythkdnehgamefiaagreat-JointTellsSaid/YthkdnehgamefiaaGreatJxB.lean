import Derived.Test.YthkdnehgamefiaaGreatJxA
namespace Go.Proofs.YthkdnehgamefiaaGreat
set_option linter.unusedVariables false
open Go.RowKit Go.Sort
def cntR:List Md->Nat
 | []=>0
 | m :: r=>m.ru.length + cntR r
theorem cnt_at:∀ (l:List Md) (j:Nat) (m:Md),l[j]?=some m->cntR (l.take j) + m.ru.length<=cntR l
 | [],j,m,h=>by simp at h
 | x :: r,0,m,h=>by
  have h:x=m:=by simpa using h
  subst h;show 0 + x.ru.length<=x.ru.length + cntR r;omega
 | x :: r,j + 1,m,h=>by have:=cnt_at r j m (by simpa using h);show x.ru.length + cntR (r.take j) + m.ru.length<=x.ru.length + cntR r;omega
theorem fst_cnt:∀ (l:List Md) (s j:Nat),j < l.length->(kU l s).getD j 0=s + cntR (l.take j)
 | [],s,j,h=>by simp at h
 | x :: r,s,0,h=>rfl
 | x :: r,s,j + 1,h=>by have:=fst_cnt r (s + x.ru.length) j (by simpa using h);show (kU r (s + x.ru.length)).getD j 0=s + (x.ru.length + cntR (r.take j));omega
theorem layR_len {L:Int->Nat->Ex->List Nj->Prop} {mod:Nat}:∀ (rs:List (ByteArray × Ex)) (k b:Nat) (B:List Hj) (E:List Nj),LayR L mod k b rs B E->B.length=rs.length
 | [],k,b,B,E,h=>by rw [h.1];rfl
 | r :: rs,k,b,B,E,h=>by obtain ⟨E1,E2,B',h1,h2,h3,h4⟩:=h;rw [h1,List.length_cons,layR_len rs _ _ _ _ h4,List.length_cons]
theorem layR_head {L:Int->Nat->Ex->List Nj->Prop} {mod:Nat}:∀ (rs:List (ByteArray × Ex)) (k b:Nat) (B:List Hj) (E:List Nj),LayR L mod k b rs B E->∀ (j:Nat) (r:ByteArray × Ex),rs[j]?=some r →
  ∃ c E1,B[j]?=some ⟨mod,r.1,c⟩/\L ((k + j:Nat):Int) c r.2 E1/\∀ M:List Nj,Ati M b E->Ati M c E1
 | [],k,b,B,E,h,j,r,hr=>by simp at hr
 | x :: rs,k,b,B,E,h,0,r,hr=>by
  obtain ⟨E1,E2,B',h1,h2,h3,h4⟩:=h;have hr:x=r:=by simpa using hr
  subst hr;exact ⟨b,E1,by rw [h1];rfl,h3,fun M hM=>by rw [h2] at hM;exact hM.left⟩
 | x :: rs,k,b,B,E,h,j + 1,r,hr=>by obtain ⟨E1,E2,B',h1,h2,h3,h4⟩:=h;obtain ⟨c,E3,h5,h6,h7⟩:=layR_head rs _ _ _ _ h4 j r (by simpa using hr);exact ⟨c,E3,by rw [h1];simpa using h5,by rw [show k + (j + 1)=k + 1 + j from by omega];exact h6,fun M hM=>by rw [h2] at hM;exact h7 M hM.right⟩
theorem layM_len {L:Nat->Int->Nat->Ex->List Nj->Prop}:∀ (l:List Md) (i b:Nat) (H:List Hj) (W:List Int) (E:List Nj),LayM L i b l H W E->H.length=cntR l/\W.length=l.length
 | [],i,b,H,W,E,h=>by rw [h.1,h.2.1];exact ⟨rfl,rfl⟩
 | m :: r,i,b,H,W,E,h=>by obtain ⟨E0,E1,E2,H1,H2,wt,W',h1,h2,h3,h4,h5,h6⟩:=h;obtain ⟨a,c⟩:=layM_len r _ _ _ _ _ h6;rw [h1,h2,List.length_append,layR_len _ _ _ _ _ h5,a,List.length_cons,c];exact ⟨rfl,rfl⟩
theorem layM_head {L:Nat->Int->Nat->Ex->List Nj->Prop}:∀ (l:List Md) (i b:Nat) (H:List Hj) (W:List Int) (E:List Nj),LayM L i b l H W E->∀ (j:Nat) (m:Md),l[j]?=some m →
  (∀ (k:Nat) (r:ByteArray × Ex),m.ru[k]?=some r->∃ c E1,H[cntR (l.take j) + k]?=some ⟨i + j,r.1,c⟩/\L (i + j) (k:Int) c r.2 E1/\∀ M:List Nj,Ati M b E->Ati M c E1) ∧
  (m.wet=true->∃ c E1,W[j]?=some ((c:Nat):Int)/\L (i + j) (-1) c m.wa E1/\∀ M:List Nj,Ati M b E->Ati M c E1)/\(m.wet=false->W[j]?=some (-1))
 | [],i,b,H,W,E,h,j,m,hm=>by simp at hm
 | x :: r,i,b,H,W,E,h,0,m,hm=>by
  obtain ⟨E0,E1,E2,H1,H2,wt,W',h1,h2,h3,h4,h5,h6⟩:=h;have hm:x=m:=by simpa using hm
  subst hm;refine ⟨fun k y hy=>?_,fun hw=>?_,fun hw=>?_⟩
  ·
   obtain ⟨c,E4,a1,a2,a3⟩:=layR_head _ _ _ _ _ h5 k y hy;refine ⟨c,E4,?_,by rw [Nat.zero_add] at a2;exact a2,fun M hM=>?_⟩
   · show H[0 + k]?=_;rw [h1,Nat.zero_add,List.getElem?_append_left (aS.1 a1).1];exact a1
   · rw [h3] at hM;exact a3 M hM.right.left
  · obtain ⟨a1,a2⟩:=h4.1 hw;exact ⟨b,E0,by rw [h2,a1];rfl,a2,fun M hM=>by rw [h3] at hM;exact hM.left⟩
  · rw [h2,(h4.2 hw).1];rfl
 | x :: r,i,b,H,W,E,h,j + 1,m,hm=>by
  obtain ⟨E0,E1,E2,H1,H2,wt,W',h1,h2,h3,h4,h5,h6⟩:=h;obtain ⟨a1,a2,a3⟩:=layM_head r _ _ _ _ _ h6 j m (by simpa using hm);have hat:∀ M:List Nj,Ati M b E->Ati M (b + E0.length + E1.length) E2:=fun M hM=>by rw [h3] at hM;exact hM.right.right
  have hl:=layR_len _ _ _ _ _ h5;have hi:i + (j + 1)=i + 1 + j:=by omega
  rw [hi];refine ⟨fun k y hy=>?_,fun hw=>?_,fun hw=>?_⟩
  · obtain ⟨c,E4,b1,b2,b3⟩:=a1 k y hy;refine ⟨c,E4,?_,b2,fun M hM=>b3 M (hat M hM)⟩;show H[x.ru.length + cntR (r.take j) + k]?=_;rw [h1,List.getElem?_append_right (by omega),hl,show x.ru.length + cntR (r.take j) + k - x.ru.length=cntR (r.take j) + k from by omega];exact b1
  · obtain ⟨c,E4,b1,b2,b3⟩:=a2 hw;exact ⟨c,E4,by rw [h2];simpa using b1,b2,fun M hM=>b3 M (hat M hM)⟩
  · rw [h2];simpa using a3 hw
theorem layR_at {L:Int->Nat->Ex->List Nj->Prop} {mod:Nat}:∀ (rs:List (ByteArray × Ex)) (k b:Nat) (B:List Hj) (E:List Nj),LayR L mod k b rs B E->∀ (p:Nat) (x:Nj),E[p]?=some x →
  ∃ (j:Nat) (r:ByteArray × Ex) (c:Nat) (E1:List Nj) (q:Nat),rs[j]?=some r/\L ((k + j:Nat):Int) c r.2 E1/\E1[q]?=some x/\c + q=b + p/\∀ M:List Nj,Ati M b E->Ati M c E1
 | [],k,b,B,E,h,p,x,hx=>by rw [h.2] at hx;simp at hx
 | r :: rs,k,b,B,E,h,p,x,hx=>by
  obtain ⟨E1,E2,B',h1,h2,h3,h4⟩:=h;rw [h2] at hx;by_cases hp:p < E1.length
  · rw [List.getElem?_append_left hp] at hx;exact ⟨0,r,b,E1,p,rfl,h3,hx,rfl,fun M hM=>by rw [h2] at hM;exact hM.left⟩
  · rw [List.getElem?_append_right (by omega)] at hx;obtain ⟨j,y,c,E3,q,a1,a2,a3,a4,a5⟩:=layR_at rs _ _ _ _ h4 (p - E1.length) x hx;exact ⟨j + 1,y,c,E3,q,by simpa using a1,by rw [show k + (j + 1)=k + 1 + j from by omega];exact a2,a3,by omega,fun M hM=>by rw [h2] at hM;exact a5 M hM.right⟩
theorem layM_at {L:Nat->Int->Nat->Ex->List Nj->Prop}:∀ (l:List Md) (i b:Nat) (H:List Hj) (W:List Int) (E:List Nj),LayM L i b l H W E->∀ (p:Nat) (x:Nj),E[p]?=some x →
  ∃ (j:Nat) (m:Md) (k:Int) (e:Ex) (c:Nat) (E1:List Nj) (q:Nat),l[j]?=some m/\(-1<=k/\k < m.ru.length)/\L (i + j) k c e E1/\E1[q]?=some x/\c + q=b + p/\∀ M:List Nj,Ati M b E->Ati M c E1
 | [],i,b,H,W,E,h,p,x,hx=>by rw [h.2.2] at hx;simp at hx
 | m :: r,i,b,H,W,E,h,p,x,hx=>by
  obtain ⟨E0,E1,E2,H1,H2,wt,W',h1,h2,h3,h4,h5,h6⟩:=h;rw [h3] at hx;by_cases hp:p < E0.length
  ·
   rw [List.getElem?_append_left hp] at hx
   cases hw:m.wet with
   | true=>exact ⟨0,m,-1,m.wa,b,E0,p,rfl,⟨Int.le_refl _,by omega⟩,(h4.1 hw).2,hx,rfl,fun M hM=>by rw [h3] at hM;exact hM.left⟩
   | false=>rw [(h4.2 hw).2] at hp;simp at hp
  ·
   rw [List.getElem?_append_right (by omega)] at hx;by_cases hq:p - E0.length < E1.length
   · rw [List.getElem?_append_left hq] at hx;obtain ⟨j,y,c,E3,q,a1,a2,a3,a4,a5⟩:=layR_at _ _ _ _ _ h5 _ x hx;have hj:=(aS.1 a1).1;rw [Nat.zero_add] at a2;exact ⟨0,m,(j:Int),y.2,c,E3,q,rfl,⟨by omega,by omega⟩,a2,a3,by omega,fun M hM=>by rw [h3] at hM;exact a5 M hM.right.left⟩
   · rw [List.getElem?_append_right (by omega)] at hx;obtain ⟨j,y,k,e,c,E3,q,a1,a2,a3,a4,a5,a6⟩:=layM_at r _ _ _ _ _ h6 _ x hx;exact ⟨j + 1,y,k,e,c,E3,q,by simpa using a1,a2,by rw [show i + (j + 1)=i + 1 + j from by omega];exact a3,a4,by omega,fun M hM=>by rw [h3] at hM;exact a6 M hM.right.right⟩
def szW (m:Md):Int:=if m.wet=true then gW 53 m.wa else 0
def szR (rs:List (ByteArray × Ex)) (a:Int):Int:=rs.foldl (fun n r=>n + gW 53 r.2) a
def szM (l:List Md) (a:Int):Int:=l.foldl (fun n m=>szR m.ru (n + szW m)) a
theorem layR_sz {L:Int->Nat->Ex->List Nj->Prop} {mod:Nat} (hL:∀ k b e E,L k b e E->(E.length:Int)=gW 53 e):∀ (rs:List (ByteArray × Ex)) (k b:Nat) (B:List Hj) (E:List Nj) (a:Int),LayR L mod k b rs B E->szR rs a=a + E.length
 | [],k,b,B,E,a,h=>by rw [h.2];show a=a + 0;omega
 | r :: rs,k,b,B,E,a,h=>by obtain ⟨E1,E2,B',h1,h2,h3,h4⟩:=h;have h5:=layR_sz hL rs _ _ _ _ (a + gW 53 r.2) h4;have h6:=hL _ _ _ _ h3;have h7:szR (r :: rs) a=szR rs (a + gW 53 r.2):=rfl;rw [h7,h5,h2,List.length_append];omega
theorem layM_sz {L:Nat->Int->Nat->Ex->List Nj->Prop} (hL:∀ i k b e E,L i k b e E->(E.length:Int)=gW 53 e):∀ (l:List Md) (i b:Nat) (H:List Hj) (W:List Int) (E:List Nj) (a:Int),LayM L i b l H W E->szM l a=a + E.length
 | [],i,b,H,W,E,a,h=>by rw [h.2.2];show a=a + 0;omega
 | m :: r,i,b,H,W,E,a,h=>by
  obtain ⟨E0,E1,E2,H1,H2,wt,W',h1,h2,h3,h4,h5,h6⟩:=h;have h0:szW m=E0.length:=by
   unfold szW
   cases hw:m.wet with
   | true=>rw [if_pos rfl];exact (hL _ _ _ _ _ (h4.1 hw).2).symm
   | false=>rw [if_neg (by simp),(h4.2 hw).2];rfl
  have h7:=layR_sz (hL i) _ _ _ _ _ (a + szW m) h5;have h8:=layM_sz hL r _ _ _ _ _ (szR m.ru (a + szW m)) h6;have h9:szM (m :: r) a=szM r (szR m.ru (a + szW m)):=rfl;rw [h9,h8,h7,h3,List.length_append,List.length_append];omega
structure Laid (ML:List Md) (gr:Gj):Prop where
 ms:gr.ms=ML.map (·.nm)
 lay:LayM (fun i k b e E=>LayE ML (kU ML 0) i k 53 b e E) 0 0 ML gr.hs gr.ws gr.ns
 rgt:∀ m ∈ ML,Qx m=true
 len:gr.ns.length<=160
 st:∃ t:Nat,gr.st=(t:Int)/\t < cntR ML
theorem imF_no (ML:List Md) (i:Nat):∀ (l:List ByteArray) (F:Option Ft3),imF ML i l F=none->F=none
 | [],F,h=>h
 | x :: r,F,h=>by
  have h1:=imF_no ML i r _ h;split at h1
  ·
   cases F with
   | none=>rfl
   | some f=>cases h1
  · exact h1
theorem hd2_no (ML:List Md):∀ (l:List Md) (i:Nat) (F:Option Ft3),hd2 ML l i F=none->F=none
 | [],i,F,h=>h
 | m :: r,i,F,h=>imF_no ML i m.im F (hd2_no ML r (i + 1) _ h)
theorem hd1_no (ML:List Md):∀ (l:List Md) (i s:Nat) (F:Option Ft3),hd1 ML l i s F=none->F=none/\∀ m ∈ l,Qx m=true
 | [],i,s,F,h=>⟨h,fun m hm=>by cases hm⟩
 | m :: r,i,s,F,h=>by
  obtain ⟨h1,h2⟩:=hd1_no ML r (i + 1) (s + m.ru.length) _ h
  cases F with
  | some f=>cases h1
  | none =>
   cases he:hdE ML i m with
   | some f=>rw [he] at h1;cases h1
   | none =>
    refine ⟨rfl,fun y hy=>?_⟩;rcases List.mem_cons.1 hy with rfl | hy
    ·
     unfold hdE at he;split at he
     · cases he
     ·
      split at he
      · cases he
      · rename_i h3;simpa using h3
    · exact h2 y hy
theorem start_lt {ML:List Md} {s:ByteArray} {st:Int} (h:yZ ML (kU ML 0) s=some st):∃ t:Nat,st=(t:Int)/\t < cntR ML:=by
 have key:∀ (mm:Nat) (md:Md) (r:Int),ML[mm]?=some md->0<=r->r < md.ru.length->some (((kU ML 0).getD mm 0:Nat) + r)=some st->∃ t:Nat,st=(t:Int)/\t < cntR ML:=fun mm md r hmd h0 h1 h2=>by
  have hl:=(aS.1 hmd).1;rw [fst_cnt ML 0 mm hl] at h2;have h3:=cnt_at ML mm md hmd;have h4:((0 + cntR (ML.take mm):Nat):Int) + r=st:=by injection h2
  exact ⟨cntR (ML.take mm) + r.toNat,by omega,by omega⟩
 unfold yZ at h;split at h
 ·
  split at h
  ·
   cases hr:uD ML 0 s with
   | mk m q =>
    cases q with
    | mk r b =>
     rw [hr] at h
     cases b with
     | false=>cases h
     | true =>
      obtain ⟨mm,md,rfl,hmd,-,h0,h1⟩:=DJ hr;have h:some ((((kU ML 0).getD ((mm:Nat):Int).toNat 0:Nat):Int) + r)=some st:=h;rw [Int.toNat_natCast] at h;exact key mm md r hmd h0 h1 h
  ·
   split at h
   ·
    split at h
    ·
     rename_i h5 h6;rcases zL (fun m:Md=>m.nm.toList == (iA s).toList) 0 ML with h7 | h7
     · have h7:cB ML (iA s)=-1:=h7;omega
     ·
      have h8:cB ML (iA s) < ((0:Nat):Int) + ML.length:=h7.2;obtain ⟨md,hmd⟩:∃ md,ML[(cB ML (iA s)).toNat]?=some md:=⟨_,aG (by omega)⟩;rw [rW _ hmd] at h6 h;rcases A2A md (iN s) with h9 | h9
      · omega
      · exact key _ md _ hmd h6 h9.2 h
    · cases h
   · cases h
 · cases h
theorem layW_cut {L L':Nat->Ex->List Nj->Prop} {b:Nat} {m:Md} {wt:Int} {E:List Nj} (hL:∀ b e E,L b e E->L' b e E) (h:LayW L b m wt E):LayW L' b m wt E:=⟨fun hw=>⟨(h.1 hw).1,hL _ _ _ (h.1 hw).2⟩,h.2⟩
theorem layR_cut {L L':Int->Nat->Ex->List Nj->Prop} {mod:Nat} (hL:∀ k b e E,L k b e E->L' k b e E):∀ (rs:List (ByteArray × Ex)) (k b:Nat) (B:List Hj) (E:List Nj),LayR L mod k b rs B E->LayR L' mod k b rs B E
 | [],k,b,B,E,h=>h
 | r :: rs,k,b,B,E,h=>by obtain ⟨E1,E2,B',h1,h2,h3,h4⟩:=h;exact ⟨E1,E2,B',h1,h2,hL _ _ _ _ h3,layR_cut hL rs _ _ _ _ h4⟩
theorem layM_cut {L L':Nat->Int->Nat->Ex->List Nj->Prop} (hL:∀ i k b e E,L i k b e E->L' i k b e E):∀ (l:List Md) (i b:Nat) (H:List Hj) (W:List Int) (E:List Nj),LayM L i b l H W E->LayM L' i b l H W E
 | [],i,b,H,W,E,h=>h
 | m :: r,i,b,H,W,E,h=>by obtain ⟨E0,E1,E2,H1,H2,wt,W',h1,h2,h3,h4,h5,h6⟩:=h;exact ⟨E0,E1,E2,H1,H2,wt,W',h1,h2,h3,layW_cut (hL i (-1)) h4,layR_cut (hL i) _ _ _ _ _ h5,layM_cut hL r _ _ _ _ _ h6⟩
theorem layR_end {L:Int->Nat->Ex->List Nj->Prop} {mod B0:Nat} (hL:∀ k b e E,L k b e E->b + E.length<=B0):∀ (rs:List (ByteArray × Ex)) (k b:Nat) (B:List Hj) (E:List Nj),b<=B0->LayR L mod k b rs B E->b + E.length<=B0
 | [],k,b,B,E,hb,h=>by rw [h.2];exact hb
 | r :: rs,k,b,B,E,hb,h=>by obtain ⟨E1,E2,B',h1,h2,h3,h4⟩:=h;have:=layR_end hL rs _ _ _ _ (hL _ _ _ _ h3) h4;rw [h2,List.length_append];omega
theorem layM_end {L:Nat->Int->Nat->Ex->List Nj->Prop} {B0:Nat} (hL:∀ i k b e E,L i k b e E->b + E.length<=B0):∀ (l:List Md) (i b:Nat) (H:List Hj) (W:List Int) (E:List Nj),b<=B0->LayM L i b l H W E->b + E.length<=B0
 | [],i,b,H,W,E,hb,h=>by rw [h.2.2];exact hb
 | m :: r,i,b,H,W,E,hb,h=>by
  obtain ⟨E0,E1,E2,H1,H2,wt,W',h1,h2,h3,h4,h5,h6⟩:=h;have h7:b + E0.length<=B0:=by
   cases hw:m.wet with
   | true=>exact hL _ _ _ _ _ (h4.1 hw).2
   | false=>rw [(h4.2 hw).2];exact hb
  have h8:=layR_end (hL i) _ _ _ _ _ h7 h5;have h9:=layM_end hL r _ _ _ _ _ h8 h6;rw [h3,List.length_append,List.length_append];omega
theorem join_laid {ML:List Md} {s:ByteArray} {gr:Gj} (h:iW ML s=.ok gr):Laid ML gr:=by
 unfold iW at h
 cases h1:hdO ML with
 | some f=>rw [h1] at h;cases h
 | none =>
  rw [h1] at h
  cases h2:mdO ML with
  | mk g F =>
   rw [h2] at h
   cases F with
   | some f=>cases h
   | none =>
    cases h3:yZ ML (kU ML 0) s with
    | none=>rw [h3] at h;cases h
    | some st =>
     rw [h3] at h;have h:(Except.ok (⟨g.ms,g.ns,g.hs,g.ws,st⟩:Gj):Except Ft3 Gj)=.ok gr:=h;injection h with e;subst e;have hr:=(hd1_no ML ML 0 0 none (hd2_no ML ML 0 _ h1)).2;obtain ⟨H,W,E,a1,a2,a3,a4,a5⟩:=mdF_lay (L:=fun i k b e E=>LayE ML (kU ML 0) i k 53 b e E/\b + E.length<=160) (fun i k e N N' n hf hq=>put_lay 53 e N N' n hf hq) ML 0 ⟨[],[],[],[]⟩ g hr h2;have a2:g.ns=E:=a2;have a3:g.hs=H:=a3;have a4:g.ws=W:=a4;refine ⟨a1,?_,hr,?_,start_lt h3⟩
     · show LayM _ 0 0 ML g.hs g.ws g.ns;rw [a2,a3,a4];exact layM_cut (fun i k b e E h=>h.1) ML _ _ _ _ _ a5
     · show g.ns.length<=160;rw [a2];have:=layM_end (B0:=160) (fun i k b e E h=>h.2) ML 0 0 _ _ _ (by omega) a5;omega
section
variable {ML:List Md} {gr:Gj}
theorem Laid.heads (h:Laid ML gr):gr.hs.length=cntR ML:=(layM_len _ _ _ _ _ _ h.lay).1
theorem Laid.waters (h:Laid ML gr):gr.ws.length=ML.length:=(layM_len _ _ _ _ _ _ h.lay).2
theorem Laid.size (h:Laid ML gr):szM ML 0=gr.ns.length:=by rw [layM_sz (fun i k b e E hl=>lay_len 53 b e E hl) _ _ _ _ _ _ 0 h.lay];omega
theorem ati_self {α:Type} (M:List α):Ati M 0 M:=fun i x hx=>by rw [Nat.zero_add];exact hx
theorem Laid.rule (h:Laid ML gr) {j k:Nat} {m:Md} {r:ByteArray × Ex} (hm:ML[j]?=some m) (hr:m.ru[k]?=some r):∃ c E1,gr.hs[cntR (ML.take j) + k]?=some ⟨j,r.1,c⟩/\LayE ML (kU ML 0) j (k:Int) 53 c r.2 E1/\Ati gr.ns c E1:=by obtain ⟨c,E1,h1,h2,h3⟩:=(layM_head _ _ _ _ _ _ h.lay j m hm).1 k r hr;rw [Nat.zero_add] at h1 h2;exact ⟨c,E1,h1,h2,h3 _ (ati_self _)⟩
theorem Laid.water (h:Laid ML gr) {j:Nat} {m:Md} (hm:ML[j]?=some m) (hw:m.wet=true):∃ c E1,gr.ws[j]?=some ((c:Nat):Int)/\LayE ML (kU ML 0) j (-1) 53 c m.wa E1/\Ati gr.ns c E1:=by obtain ⟨c,E1,h1,h2,h3⟩:=(layM_head _ _ _ _ _ _ h.lay j m hm).2.1 hw;rw [Nat.zero_add] at h2;exact ⟨c,E1,h1,h2,h3 _ (ati_self _)⟩
theorem Laid.dry (h:Laid ML gr) {j:Nat} {m:Md} (hm:ML[j]?=some m) (hw:m.wet=false):gr.ws[j]?=some (-1):=(layM_head _ _ _ _ _ _ h.lay j m hm).2.2 hw
theorem Laid.node (h:Laid ML gr) {p:Nat} {x:Nj} (hx:gr.ns[p]?=some x):∃ m,ML[x.mo]?=some m/\(-1<=x.ru/\x.ru < m.ru.length)/\(∀ k ∈ x.ks,p < k/\∃ y,gr.ns[k]?=some y/\y.mo=x.mo/\y.ru=x.ru) ∧
  (x.op=11->∃ (j q:Nat) (mj:Md) (rj:ByteArray × Ex) (c:Nat),uD ML (x.mo:Int) x.tx=((j:Int),(q:Int),true)/\ML[j]?=some mj/\mj.ru[q]?=some rj/\x.tg=((cntR (ML.take j) + q:Nat):Int)/\gr.hs[cntR (ML.take j) + q]?=some ⟨j,rj.1,c⟩)/\(x.op ≠ 11->x.tg=-1):=by
 obtain ⟨j,m,k,e,c,E1,q,h1,h2,h3,h4,h5,h6⟩:=layM_at _ _ _ _ _ _ h.lay p x hx;rw [Nat.zero_add] at h3;have h6:=h6 _ (ati_self _);obtain ⟨a1,a2,⟨y,a3,a4,a5⟩,a6⟩:=lay_node 53 c e E1 h3 q x h4;refine ⟨m,by rw [a1];exact h1,by rw [a2];exact h2,fun n hn=>?_,fun h11=>?_,fun h11=>?_⟩
 · obtain ⟨b1,b2⟩:=a6 n hn;refine ⟨by omega,?_⟩;obtain ⟨z,hz⟩:∃ z,E1[n - c]?=some z:=⟨_,aG (by omega)⟩;obtain ⟨d1,d2,-,-⟩:=lay_node 53 c e E1 h3 (n - c) z hz;have hz2:=h6 _ _ hz;rw [show c + (n - c)=n from by omega] at hz2;exact ⟨z,hz2,by rw [d1,a1],by rw [d2,a2]⟩
 ·
  unfold toO at a3;rw [a4,if_pos h11,a5,<- a1] at a3
  cases hr:uD ML (x.mo:Int) x.tx with
  | mk mm q3 =>
   cases q3 with
   | mk r b =>
    rw [hr] at a3
    cases b with
    | false=>cases a3
    | true =>
     obtain ⟨jj,mj,rfl,hmj,-,h0,hlt⟩:=DJ hr;have hjl:=(aS.1 hmj).1;have a3:((((kU ML 0).getD ((jj:Int)).toNat 0:Nat):Int) + r)=x.tg:=(by injection a3);rw [Int.toNat_natCast,fst_cnt ML 0 jj hjl] at a3;obtain ⟨rn,hrn⟩:∃ rn:Nat,r=(rn:Int):=⟨r.toNat,by omega⟩;subst hrn;obtain ⟨rj,hrj⟩:∃ rj,mj.ru[rn]?=some rj:=⟨_,aG (by omega)⟩;obtain ⟨c2,E2,b1,-,-⟩:=h.rule hmj hrj;exact ⟨jj,rn,mj,rj,c2,rfl,hmj,hrj,by omega,b1⟩
 · unfold toO at a3;rw [a4,if_neg h11] at a3;injection a3 with a3;exact a3.symm
end
end Go.Proofs.YthkdnehgamefiaaGreat
