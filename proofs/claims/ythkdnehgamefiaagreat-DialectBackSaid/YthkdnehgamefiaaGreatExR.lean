import Derived.Test.YthkdnehgamefiaaGreatHl
namespace Go.Proofs.YthkdnehgamefiaaGreat
set_option linter.unusedVariables false
set_option maxRecDepth 1000000
open Go.RowKit
def El (x:Ex) (ko:Option Addr) (kc:Nat):List Value:=[.int .i64 x.op,.string x.text,.int .u64 x.s0,.int .u64 x.s1,.int .u64 x.s2,.int .u64 x.s3,.slice ko x.kids.length kc]
def Pp (R:Nat->Prop) (w:World):Nat->Option Addr->List Ex->Prop
 | 0,_,K=>K=[]
 | n + 1,ao,K=>∀ (k:Nat) (x:Ex),K[k]?=some x->∃ g off ko kc,ao=some ⟨g,off,none⟩/\R g/\g < w.heap.size ∧
   w.cell? ⟨g,off + k * 7,none⟩=some (.int .i64 x.op)/\w.cell? ⟨g,off + k * 7 + 1,none⟩=some (.string x.text) ∧
   w.cell? ⟨g,off + k * 7 + 2,none⟩=some (.int .u64 x.s0)/\w.cell? ⟨g,off + k * 7 + 3,none⟩=some (.int .u64 x.s1) ∧
   w.cell? ⟨g,off + k * 7 + 4,none⟩=some (.int .u64 x.s2)/\w.cell? ⟨g,off + k * 7 + 5,none⟩=some (.int .u64 x.s3) ∧
   w.cell? ⟨g,off + k * 7 + 6,none⟩=some (.slice ko x.kids.length kc)/\Pp R w n ko x.kids
section
variable {R S T:Nat->Prop} {w w':World}
theorem Pp.keep (hb:But T w w') (hd:∀ g,g < w.heap.size->R g->¬ T g):∀ {n:Nat} {ao:Option Addr} {K:List Ex},Pp R w n ao K->Pp R w' n ao K
 | 0,_,_,h=>h
 | n + 1,ao,K,h=>fun k x hk=>by
  obtain ⟨g,off,ko,kc,e,hR,hg,c0,c1,c2,c3,c4,c5,c6,hr⟩:=h k x hk;have t:¬ T g:=hd g hg hR
  exact ⟨g,off,ko,kc,e,hR,aL hg hb.size,hb.cell (p:=⟨g,off + k * 7,none⟩) t c0,hb.cell (p:=⟨g,off + k * 7 + 1,none⟩) t c1,hb.cell (p:=⟨g,off + k * 7 + 2,none⟩) t c2,
   hb.cell (p:=⟨g,off + k * 7 + 3,none⟩) t c3,hb.cell (p:=⟨g,off + k * 7 + 4,none⟩) t c4,hb.cell (p:=⟨g,off + k * 7 + 5,none⟩) t c5,hb.cell (p:=⟨g,off + k * 7 + 6,none⟩) t c6,Pp.keep hb hd hr⟩
theorem Pp.has:∀ {n:Nat} {ao:Option Addr} {K:List Ex},Pp R w n ao K->aV w n ao K
 | 0,_,_,h=>h
 | n + 1,ao,K,h=>fun k x hk=>by obtain ⟨g,off,ko,kc,e,hR,hg,c0,c1,c2,c3,c4,c5,c6,hr⟩:=h k x hk;exact ⟨g,off,ko,kc,e,hg,c0,c1,c2,c3,c4,c5,c6,hr.has⟩
theorem Pp.nil (R:Nat->Prop) (w:World) (n:Nat) (ao:Option Addr):Pp R w n ao []:=by
 cases n with
 | zero=>rfl
 | succ n=>intro k x h;simp at h
theorem Pp.one {t:TypeId} {g n kc:Nat} {x:Ex} {ko:Option Addr} (h:Own w g t (El x ko kc)) (hR:R g) (hk:Pp R w n ko x.kids):Pp R w (n + 1) (some ⟨g,0,none⟩) [x]:=fun k y hy=>by
 match k,hy with
 | 0,hy =>
  simp at hy;subst hy;exact ⟨g,0,ko,kc,rfl,hR,h.lt,h.cell 0,h.cell 1,h.cell 2,h.cell 3,h.cell 4,h.cell 5,h.cell 6,hk⟩
 | k + 1,hy=>simp at hy
end
theorem aV.one {w:World} {t:TypeId} {g n kc:Nat} {x:Ex} {ko:Option Addr} (h:Own w g t (El x ko kc)) (hk:aV w n ko x.kids):aV w (n + 1) (some ⟨g,0,none⟩) [x]:=fun k y hy=>by
 match k,hy with
 | 0,hy =>
  simp at hy;subst hy;exact ⟨g,0,ko,kc,rfl,h.lt,h.cell 0,h.cell 1,h.cell 2,h.cell 3,h.cell 4,h.cell 5,h.cell 6,hk⟩
 | k + 1,hy=>simp at hy
theorem aV.two {w:World} {t:TypeId} {g n kc lc:Nat} {x y:Ex} {ko lo:Option Addr} (h:Own w g t (El x ko kc ++ El y lo lc)) (hk:aV w n ko x.kids) (hl:aV w n lo y.kids):aV w (n + 1) (some ⟨g,0,none⟩) [x,y]:=fun k z hz=>by
 match k,hz with
 | 0,hz =>
  simp at hz;subst hz;exact ⟨g,0,ko,kc,rfl,h.lt,h.cell 0,h.cell 1,h.cell 2,h.cell 3,h.cell 4,h.cell 5,h.cell 6,hk⟩
 | 1,hz =>
  simp at hz;subst hz;exact ⟨g,0,lo,lc,rfl,h.lt,h.cell 7,h.cell 8,h.cell 9,h.cell 10,h.cell 11,h.cell 12,h.cell 13,hl⟩
 | k + 2,hz=>simp at hz
theorem aV.mores {w:World} {n:Nat} {ao:Option Addr} {K:List Ex} (h:aV w n ao K):∀ m,aV w (n + m) ao K
 | 0=>h
 | m + 1=>(aV.mores h m).more
end Go.Proofs.YthkdnehgamefiaaGreat
