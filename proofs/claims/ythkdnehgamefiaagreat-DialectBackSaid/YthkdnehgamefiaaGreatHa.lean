import Derived.WalkKit
import Derived.OrdersHeld
import Derived.KernelRfl
import Derived.WalkSpells
import Derived.Lib.Hide
import Derived.Laws.Rows
import Derived.Deep.Draws
import Derived.Lib.QuietBelow
namespace Go.Proofs.YthkdnehgamefiaaGreat
set_option linter.unusedVariables false
set_option maxRecDepth 1000000
open Go.RowKit
/-- A fact out of the walk's sight. -/
def aQ (p:Prop):Prop:=p
theorem aH {p:Prop} (h:p):aQ p:=h
theorem aQ.o {p:Prop} (h:aQ p):p:=h
theorem aT {p:Prop} [inst:Decidable p] (h:p):decide p=true:=decide_eq_true h
theorem aF {p:Prop} [inst:Decidable p] (h:¬p):decide p=false:=decide_eq_false h
theorem aN {α:Type _} [BEq α] [LawfulBEq α] {a b:α}:(a == b)=false ↔ a ≠ b:=beq_eq_false_iff_ne
theorem aL {n m k:Nat} (h:n < m) (h2:m<=k):n < k:=Nat.lt_of_lt_of_le h h2
theorem wI {x:Int} (h:-9223372036854775808<=x/\x < 9223372036854775808:=by omega):IntKind.i64.wrap x=x:=by rw [IntKind.wrap_i64] <;> omega
theorem bA {B:Nat} {w:World} (o:Obj) (h:B<=w.heap.size:=by exact Nat.le_refl _):Below B w (w.alloc o):=(Below.refl B w).alloc h o
theorem aG {α:Type _} {l:List α} {i:Nat} (h:i < l.length):l[i]?=some l[i]:=List.getElem?_eq_getElem h
theorem aM {α:Type _} {l:List α} {i:Nat} {a:α} (h:l[i]?=some a):a ∈ l:=List.mem_of_getElem? h
theorem aS {α:Type _} {l:List α} {i:Nat} {a:α}:l[i]?=some a ↔ ∃ h:i < l.length,l[i]=a:=List.getElem?_eq_some_iff
def Own (w:World) (g:Nat) (t:TypeId) (cs:List Value):Prop:=w.heap[g]?=some (.cells cs.toArray t (0,0))
section
variable {w w':World} {g:Nat} {t:TypeId} {cs:List Value}
theorem Own.lt (h:Own w g t cs):g < w.heap.size:=by
 by_cases hg:g < w.heap.size
 · exact hg
 · unfold Own at h;rw [Array.getElem?_eq_none (by omega)] at h;cases h
theorem Own.cell (h:Own w g t cs) (i:Nat):w.cell? ⟨g,i,none⟩=cs[i]?:=by rw [cell_of_row w g i cs.toArray t (0,0) h];simp
theorem Own.thaw (h:Own w g t cs) (i:Nat):w.frozen? ⟨g,i,none⟩=false:=by unfold Own at h;simp [World.frozen?,h]
theorem Own.fresh (w:World) (t:TypeId) (cs:List Value):Own (w.alloc (.cells cs.toArray t)) w.heap.size t cs:=(MapKept.heap_alloc w _).1
theorem Own.fresh' {w:World} {g:Nat} (h:g=w.heap.size) (t:TypeId) (cs:List Value):Own (w.alloc (.cells cs.toArray t)) g t cs:=h ▸ Own.fresh w t cs
theorem Own.on_drew (h:Own w g t cs):Own w.drew g t cs:=h
theorem Own.on_drewN (h:Own w g t cs) (n:Nat):Own (w.drewN n) g t cs:=h
theorem Own.on_alloc (h:Own w g t cs) (o:Obj):Own (w.alloc o) g t cs:=(Below.heap_alloc w o g h.lt).trans h
theorem Own.put (h:Own w g t cs) (i:Nat) (u:Value):Own (w.setCell ⟨g,i,none⟩ u) g t (cs.set i u):=by unfold Own at h ⊢;rw [heap_setCell_same w g i cs.toArray t u h];simp
theorem Own.off (h:Own w g t cs) {p:Addr} (hp:g ≠ p.block) (u:Value):Own (w.setCell p u) g t cs:=(Below.heap_setCell w p u g hp).trans h
theorem Own.under {B:Nat} (h:Own w g t cs) (hb:Below B w w') (hg:g < B):Own w' g t cs:=(hb.block g hg).trans h
theorem Own.by_grown {row:Option Nat} (h:Own w g t cs) (hb:w.grownBy w' row) (hg:some g ≠ row):Own w' g t cs:=(hb.block g h.lt hg).trans h
theorem Own.four {v0 v1 v2 v3:Value} (h:Own w g t [v0,v1,v2,v3]) :
  w.cell? ⟨g,0,none⟩=some v0/\w.cell? ⟨g,1,none⟩=some v1/\w.cell? ⟨g,2,none⟩=some v2/\w.cell? ⟨g,3,none⟩=some v3 ∧
  w.frozen? ⟨g,0,none⟩=false/\w.frozen? ⟨g,1,none⟩=false/\w.frozen? ⟨g,2,none⟩=false/\w.frozen? ⟨g,3,none⟩=false :=
 ⟨h.cell 0,h.cell 1,h.cell 2,h.cell 3,h.thaw 0,h.thaw 1,h.thaw 2,h.thaw 3⟩
def set4 (w:World) (g:Nat) (u0 u1 u2 u3:Value):World:=(((w.setCell ⟨g,0,none⟩ u0).setCell ⟨g,1,none⟩ u1).setCell ⟨g,2,none⟩ u2).setCell ⟨g,3,none⟩ u3
theorem aW (w:World) (g:Nat) (u0 u1 u2 u3:Value):(((w.setCell ⟨g,0,none⟩ u0).setCell ⟨g,1,none⟩ u1).setCell ⟨g,2,none⟩ u2).setCell ⟨g,3,none⟩ u3=set4 w g u0 u1 u2 u3:=rfl
theorem Own.put4 {v0 v1 v2 v3 u0 u1 u2 u3:Value} (h:Own w g t [v0,v1,v2,v3]):Own (set4 w g u0 u1 u2 u3) g t [u0,u1,u2,u3] :=
 (((h.put 0 u0).put 1 u1).put 2 u2).put 3 u3
theorem Own.off4 (h:Own w g t cs) {k:Nat} (hk:g ≠ k) (u0 u1 u2 u3:Value):Own (set4 w k u0 u1 u2 u3) g t cs :=
 (((h.off (p:=⟨k,0,none⟩) hk u0).off (p:=⟨k,1,none⟩) hk u1).off (p:=⟨k,2,none⟩) hk u2).off (p:=⟨k,3,none⟩) hk u3
end
theorem below_drewN {B:Nat} {a w:World} (h:Below B a w) (n:Nat):Below B a (w.drewN n):=⟨h.os,h.tape,h.output,h.size,h.block⟩
theorem aR {B g:Nat} {a w:World} (h:Below B a w) (hg:B<=g) (u0 u1 u2 u3:Value):Below B a (set4 w g u0 u1 u2 u3) :=
 (((h.setCell (p:=⟨g,0,none⟩) hg u0).setCell (p:=⟨g,1,none⟩) hg u1).setCell (p:=⟨g,2,none⟩) hg u2).setCell (p:=⟨g,3,none⟩) hg u3
theorem aC {w w':World} {a:Addr} {v:Value} (h:w.cell? a=some v) (hb:Below w.heap.size w w'):w'.cell? a=some v :=
 (hb.cell (World.block_lt_of_cell? w _ h)).trans h
theorem aD {w0 w w':World} (h:Below w0.heap.size w0 w) (hb:Below w.heap.size w w'):Below w0.heap.size w0 w':=h.trans (hb.mono h.size)
theorem aJ {a b:Bool} (h:a=b):Ending.returned (.bool a)=.returned (.bool b):=by rw [h]
theorem eF {k:IntKind} {a b:Int} (h:a=b):Ending.returned (.int k a)=.returned (.int k b):=by rw [h]
theorem pY {a b c d a' b' c' d':Int} (h1:a=a') (h2:b=b') (h3:c=c') (h4:d=d') :
  Ending.returned (.agg #[.int .u64 a,.int .u64 b,.int .u64 c,.int .u64 d])=.returned (.agg #[.int .u64 a',.int .u64 b',.int .u64 c',.int .u64 d']):=by rw [h1,h2,h3,h4]
theorem tA {P:Program} {ops:Array Oper} {Q:Exit->Act->World->Prop} {md:Region.Mode} (i:Nat) {oi:Oper} {v:Value} {n:Nat} {l:Array Bool} {a:Act} {w:World} (hi:ops[i]?=some oi) (h:wpAny P md ops Q n (l.setIfInBounds i true) (a.put oi.dst v) w) (hw:Region.wanted oi (yielded ops a.tmps)=true:=by rfl) (hv:∀ w,(execOp a.eval oi).run P w=.ok (.value v) w:=by intro w;go_simp;try with_reducible rfl) (hs:Region.noSelect ops=true:=by kernel_rfl) (hf:Region.free md ops l i=true:=by kernel_rfl) (hr:(Region.ready md ops l).contains i=true:=by kernel_rfl) (hQ:∀ c a w,Q (.panic c) (a.put oi.dst v) w->Q (.panic c) a w:=by exact fun _ _ _ h=>h):wpAny P md ops Q (n + 1) l a w :=
 wpAny_take hi hs hf hr hQ (.inl ⟨hw,hv⟩) h
theorem tB {P:Program} {ops:Array Oper} {Q:Exit->Act->World->Prop} {md:Region.Mode} {S:World->Prop} (i:Nat) {oi:Oper} {v:Value} {n:Nat} {l:Array Bool} {a:Act} {w:World} (hi:ops[i]?=some oi) (hS:S w) (h:wpAnyH P md ops Q S n (l.setIfInBounds i true) (a.put oi.dst v) w) (hw:Region.wanted oi (yielded ops a.tmps)=true:=by rfl) (hv:∀ w,S w->(execOp a.eval oi).run P w=.ok (.value v) w:=by intro w h;revert h;(try simp only [and_imp]);intros;go_simp;try with_reducible rfl) (hs:Region.noSelect ops=true:=by kernel_rfl) (hf:Region.free md ops l i=true:=by kernel_rfl) (hr:(Region.ready md ops l).contains i=true:=by kernel_rfl) (hQ:∀ c a w,Q (.panic c) (a.put oi.dst v) w->Q (.panic c) a w:=by exact fun _ _ _ h=>h):wpAnyH P md ops Q S (n + 1) l a w :=
 wpAnyH_take hi hs hf hr hQ (.inl ⟨hw,hv⟩) hS h
theorem p4 {w:World} {g:Nat} {t:TypeId} {v0 v1 v2 v3:Value} (h:Own w g t [v0,v1,v2,v3]) (u0 u1 u2 u3:Value):Own (set4 w g u0 u1 u2 u3) g t [u0,u1,u2,u3]:=h.put4
theorem oG {w:World} {g:Nat} {t:TypeId} {v0 v1 v2 v3 v4:Value} (h:Own w g t [v0,v1,v2,v3,v4]):w.cell? ⟨g,0,none⟩=some v0/\w.cell? ⟨g,1,none⟩=some v1/\w.cell? ⟨g,2,none⟩=some v2/\w.cell? ⟨g,3,none⟩=some v3/\w.cell? ⟨g,4,none⟩=some v4/\g < w.heap.size :=
 ⟨h.cell 0,h.cell 1,h.cell 2,h.cell 3,h.cell 4,h.lt⟩
theorem fZ {P:Value->Value->Value->Value->Value->Value->Value->Prop} (f:∀ a b c d e g h,P a b c d e g h):P (.int .i64 0) (.string ⟨#[]⟩) (.int .u64 0) (.int .u64 0) (.int .u64 0) (.int .u64 0) (.slice none 0 0):=f _ _ _ _ _ _ _
def byt (s:ByteArray) (k:Nat):Int:=((s.data.toList.getD k 0).toNat:Int)
theorem dI {s:ByteArray} {k:Nat} (h:k < s.size):byt s k=(s[k].toNat:Int):=by
 have h':k < s.data.toList.length:=by simpa using h
 unfold byt;rw [List.getD_eq_getElem?_getD,aG h'];rfl
theorem tX (s:ByteArray) (k:Nat):0<=byt s k/\byt s k<=255:=by unfold byt;have:=(s.data.toList.getD k 0).toNat_lt;omega
def ofL (l:List UInt8):ByteArray:=⟨l.toArray⟩
theorem pF (a:ByteArray):ofL a.data.toList=a:=by apply ByteArray.ext;show a.data.toList.toArray=a.data;simp
theorem JH (s:ByteArray) (k:Nat):ofL (s.data.toList.drop k)=s.extract k s.size:=by apply ByteArray.ext;show (s.data.toList.drop k).toArray=(s.extract k s.size).data;rw [ByteArray.data_extract];apply Array.ext';simp;rw [List.take_of_length_le (by simp)]
open Go.Sort
end Go.Proofs.YthkdnehgamefiaaGreat
