import Derived.Test.YthddifjhoniacaaIk
import Derived.Test.YthddifjhoniacaaCoA
import Derived.Test.YthddifjhoniacaaCpA
import Derived.Test.YthddifjhoniacaaNf17
namespace Go.Proofs.Ythddifjhoniacaa
set_option linter.unusedVariables false
open Go.RowKit Go.Sort
def plO (gr:Gj) (k:Nat):Bool:=match gr.ns[k]? with
 | none=>false
 | some y=>decide (y.op=8)
def plN (gr:Gj) (n:Nat):Option Nat:=match gr.ns[n]? with
 | none=>none
 | some x=>if x.op=11 then some (bY gr n) else match x.ks with
  | []=>none
  | [k]=>some k
  | k :: j :: _=>if x.op=4/\plO gr k=true then some j else some k
theorem pl_nul {gr:Gj} {k:Nat} (h:plO gr k=true):aZ gr k=true:=by
 unfold plO at h
 cases hy:gr.ns[k]? with
 | none=>rw [hy] at h;cases h
 | some y =>
  rw [hy] at h;have h8:y.op=8:=of_decide_eq_true h;rw [A0o gr k (aS.1 hy).1];unfold tF;rw [hy];show (if y.op=6\/y.op=8\/y.op=9\/y.op=10 then true else _)=true;rw [if_pos (.inr (.inl h8))]
theorem pl_cal {gr:Gj} (har:∀ x ∈ gr.ns,Ar x) {T:Nx} {nl n k:Nat} (h:plN gr n=some k):(k:Int) ∈ jE gr T nl n:=by
 unfold plN at h
 cases hx:gr.ns[n]? with
 | none=>rw [hx] at h;cases h
 | some x =>
  rw [hx] at h;have ha:=har x (aM hx);simp only at h;split at h
  ·
   next h11 =>
   injection h with h;rw [B4H hx ha h11,h];exact List.mem_singleton.2 rfl
  ·
   split at h
   · cases h
   ·
    next k' hk =>
    injection h with h;subst h;exact B4F (i:=0) hx (by rw [hk];rfl) (.inr (.inl rfl))
   ·
    next k' j r hk =>
    split at h
    ·
     next h4 =>
     injection h with h;subst h;exact B4F (i:=1) hx (by rw [hk];rfl) (.inr (.inr ⟨rfl,k',by rw [hk];rfl,pl_nul h4.2⟩))
    · injection h with h;subst h;exact B4F (i:=0) hx (by rw [hk];rfl) (.inr (.inl rfl))
def plW (gr:Gj):Nat->Nat->Bool
 | 0,_=>false
 | f + 1,n=>match plN gr n with
  | none=>false
  | some k=>decide (k=0) || plW gr f k
theorem pl_rea {gr:Gj} (har:∀ x ∈ gr.ns,Ar x) {T:Nx} {nl:Nat}:∀ (f n:Nat),plW gr f n=true->Rea (jE gr T nl) n 0
 | 0,n,h=>by cases h
 | f + 1,n,h=>by
  unfold plW at h
  cases hk:plN gr n with
  | none=>rw [hk] at h;cases h
  | some k =>
   rw [hk] at h;simp only [Bool.or_eq_true,decide_eq_true_eq] at h;have hc:=pl_cal har (T:=T) (nl:=nl) hk;rcases h with rfl | h
   · exact .one hc
   · exact .head hc (pl_rea har f k h)
def plE (gr:Gj):Bool:=gr.ns.all (fun x=>decide (¬ (x.op=6\/x.op=7\/x.op=13))) && gr.ws.all (fun y=>decide (y < 0))
theorem pl_bad {gr:Gj} (h:plE gr=true) (n:Nat):UM gr n=false:=by
 unfold plE at h;rw [Bool.and_eq_true,List.all_eq_true,List.all_eq_true] at h;unfold UM
 cases hx:gr.ns[n]? with
 | none=>rfl
 | some x =>
  have h1:=of_decide_eq_true (h.1 x (aM hx));have h2:¬ gr.ws[x.mo]?=some (n:Int):=fun e=>by have:=of_decide_eq_true (h.2 _ (aM e));omega
  simp only [aF h1,aF h2,Bool.false_and,Bool.or_false]
theorem pl_hol {gr:Gj} (h:plE gr=true):∀ c n,yS gr c n=-1
 | 0,n=>rfl
 | c + 1,n=>by unfold yS;rw [pl_bad h n,if_neg (by decide)];exact pl_hol h c (n + 1)
def plH (gr:Gj):Bool:=match gr.ns[0]? with
 | none=>false
 | some x=>decide (x.mo=0/\x.ru=0)
def plB:Option Gj->Bool
 | none=>false
 | some gr=>plE gr && plW gr 100 0 && plH gr
theorem pl_flt {s:ByteArray} (h:plB (lM [s] ⟨#[97]⟩)=true):B4j s=.agg #[.int .i64 7,.int .i64 0,.int .i64 0,.int .i64 0]:=by
 unfold B4j
 cases hR:lM [s] ⟨#[97]⟩ with
 | none=>rw [hR] at h;cases h
 | some gr =>
  rw [hR] at h;unfold plB at h;rw [Bool.and_eq_true,Bool.and_eq_true] at h;obtain ⟨⟨h1,h2⟩,h3⟩:=h;have hg:=eG hR;have har:=lN hR;have hw:=Dq hR;unfold plH at h3
  cases hx:gr.ns[0]? with
  | none=>rw [hx] at h3;cases h3
  | some x =>
   rw [hx] at h3;obtain ⟨hmo,hru⟩:=of_decide_eq_true h3;have hN:=(aS.1 hx).1;have hC:∀ n,n < gr.ns.length->∀ y ∈ jE gr (bP gr) gr.ns.length n,0<=y/\y < (gr.ns.length:Int):=fun n _=>(Lr hg hw (fun k _ y hy=>((jQ hg har).1.ok k y hy).rng) n).2;have hr:=(Vk hC hN).2 (pl_rea har 100 0 h2);have hcy:Au (jE gr (bP gr) gr.ns.length) gr.ns.length=0:=by
    unfold Au
    cases hl:gr.ns.length with
    | zero=>omega
    | succ m =>
     rw [hl] at hr;unfold Tc;rw [hr,if_pos rfl];rfl
   show zH gr=_;unfold zH;rw [pl_hol h1,if_neg (by decide),hcy,if_pos (by decide)];show ftN gr 7 0=_;unfold ftN;rw [hx];simp only [hmo,hru];rfl
def plR (m j i:Nat):List UInt8:=(97 + i).toUInt8 :: (if i=j then [32,61,32,34,120,34,63,32] ++ (97 + (i + 1) % m).toUInt8 :: [32,47,32,34,121,34,59,10] else [32,61,32] ++ (97 + (i + 1) % m).toUInt8 :: [32,34,122,34,32,47,32,34,121,34,59,10])
def plT (m j:Nat):Nat->List UInt8
 | 0=>[109,111,100,117,108,101,32,109,59,10]
 | i + 1=>plT m j i ++ plR m j i
def plQ:List UInt8:=[113,32,61,32,34,120,34,32,97,59,10]
def plP (m j:Nat):Bool:=plB (lM [⟨(plT m j m).toArray⟩] ⟨#[97]⟩) && plB (lM [⟨(plT m j m ++ plQ).toArray⟩] ⟨#[97]⟩)
theorem pl_1_0:plP 1 0=true:=by kernel_rfl
theorem pl_2_0:plP 2 0=true:=by kernel_rfl
theorem pl_2_1:plP 2 1=true:=by kernel_rfl
theorem pl_3_0:plP 3 0=true:=by kernel_rfl
theorem pl_3_1:plP 3 1=true:=by kernel_rfl
theorem pl_3_2:plP 3 2=true:=by kernel_rfl
theorem pl_4_0:plP 4 0=true:=by kernel_rfl
theorem pl_4_1:plP 4 1=true:=by kernel_rfl
theorem pl_4_2:plP 4 2=true:=by kernel_rfl
theorem pl_4_3:plP 4 3=true:=by kernel_rfl
theorem pl_5_0:plP 5 0=true:=by kernel_rfl
theorem pl_5_1:plP 5 1=true:=by kernel_rfl
theorem pl_5_2:plP 5 2=true:=by kernel_rfl
theorem pl_5_3:plP 5 3=true:=by kernel_rfl
theorem pl_5_4:plP 5 4=true:=by kernel_rfl
theorem pl_6_0:plP 6 0=true:=by kernel_rfl
theorem pl_6_1:plP 6 1=true:=by kernel_rfl
theorem pl_6_2:plP 6 2=true:=by kernel_rfl
theorem pl_6_3:plP 6 3=true:=by kernel_rfl
theorem pl_6_4:plP 6 4=true:=by kernel_rfl
theorem pl_6_5:plP 6 5=true:=by kernel_rfl
theorem pl_7_0:plP 7 0=true:=by kernel_rfl
theorem pl_7_1:plP 7 1=true:=by kernel_rfl
theorem pl_7_2:plP 7 2=true:=by kernel_rfl
theorem pl_7_3:plP 7 3=true:=by kernel_rfl
theorem pl_7_4:plP 7 4=true:=by kernel_rfl
theorem pl_7_5:plP 7 5=true:=by kernel_rfl
theorem pl_7_6:plP 7 6=true:=by kernel_rfl
theorem pl_8_0:plP 8 0=true:=by kernel_rfl
theorem pl_8_1:plP 8 1=true:=by kernel_rfl
theorem pl_8_2:plP 8 2=true:=by kernel_rfl
theorem pl_8_3:plP 8 3=true:=by kernel_rfl
theorem pl_8_4:plP 8 4=true:=by kernel_rfl
theorem pl_8_5:plP 8 5=true:=by kernel_rfl
theorem pl_8_6:plP 8 6=true:=by kernel_rfl
theorem pl_8_7:plP 8 7=true:=by kernel_rfl
theorem pl_9_0:plP 9 0=true:=by kernel_rfl
theorem pl_9_1:plP 9 1=true:=by kernel_rfl
theorem pl_9_2:plP 9 2=true:=by kernel_rfl
theorem pl_9_3:plP 9 3=true:=by kernel_rfl
theorem pl_9_4:plP 9 4=true:=by kernel_rfl
theorem pl_9_5:plP 9 5=true:=by kernel_rfl
theorem pl_9_6:plP 9 6=true:=by kernel_rfl
theorem pl_9_7:plP 9 7=true:=by kernel_rfl
theorem pl_9_8:plP 9 8=true:=by kernel_rfl
theorem pl_10_0:plP 10 0=true:=by kernel_rfl
theorem pl_10_1:plP 10 1=true:=by kernel_rfl
theorem pl_10_2:plP 10 2=true:=by kernel_rfl
theorem pl_10_3:plP 10 3=true:=by kernel_rfl
theorem pl_10_4:plP 10 4=true:=by kernel_rfl
theorem pl_10_5:plP 10 5=true:=by kernel_rfl
theorem pl_10_6:plP 10 6=true:=by kernel_rfl
theorem pl_10_7:plP 10 7=true:=by kernel_rfl
theorem pl_10_8:plP 10 8=true:=by kernel_rfl
theorem pl_10_9:plP 10 9=true:=by kernel_rfl
theorem plm_1 (j:Nat) (h:j < 1):plP 1 j=true:=by
 match j,h with
 | 0,_=>exact pl_1_0
theorem plm_2 (j:Nat) (h:j < 2):plP 2 j=true:=by
 match j,h with
 | 0,_=>exact pl_2_0
 | 1,_=>exact pl_2_1
theorem plm_3 (j:Nat) (h:j < 3):plP 3 j=true:=by
 match j,h with
 | 0,_=>exact pl_3_0
 | 1,_=>exact pl_3_1
 | 2,_=>exact pl_3_2
theorem plm_4 (j:Nat) (h:j < 4):plP 4 j=true:=by
 match j,h with
 | 0,_=>exact pl_4_0
 | 1,_=>exact pl_4_1
 | 2,_=>exact pl_4_2
 | 3,_=>exact pl_4_3
theorem plm_5 (j:Nat) (h:j < 5):plP 5 j=true:=by
 match j,h with
 | 0,_=>exact pl_5_0
 | 1,_=>exact pl_5_1
 | 2,_=>exact pl_5_2
 | 3,_=>exact pl_5_3
 | 4,_=>exact pl_5_4
theorem plm_6 (j:Nat) (h:j < 6):plP 6 j=true:=by
 match j,h with
 | 0,_=>exact pl_6_0
 | 1,_=>exact pl_6_1
 | 2,_=>exact pl_6_2
 | 3,_=>exact pl_6_3
 | 4,_=>exact pl_6_4
 | 5,_=>exact pl_6_5
theorem plm_7 (j:Nat) (h:j < 7):plP 7 j=true:=by
 match j,h with
 | 0,_=>exact pl_7_0
 | 1,_=>exact pl_7_1
 | 2,_=>exact pl_7_2
 | 3,_=>exact pl_7_3
 | 4,_=>exact pl_7_4
 | 5,_=>exact pl_7_5
 | 6,_=>exact pl_7_6
theorem plm_8 (j:Nat) (h:j < 8):plP 8 j=true:=by
 match j,h with
 | 0,_=>exact pl_8_0
 | 1,_=>exact pl_8_1
 | 2,_=>exact pl_8_2
 | 3,_=>exact pl_8_3
 | 4,_=>exact pl_8_4
 | 5,_=>exact pl_8_5
 | 6,_=>exact pl_8_6
 | 7,_=>exact pl_8_7
theorem plm_9 (j:Nat) (h:j < 9):plP 9 j=true:=by
 match j,h with
 | 0,_=>exact pl_9_0
 | 1,_=>exact pl_9_1
 | 2,_=>exact pl_9_2
 | 3,_=>exact pl_9_3
 | 4,_=>exact pl_9_4
 | 5,_=>exact pl_9_5
 | 6,_=>exact pl_9_6
 | 7,_=>exact pl_9_7
 | 8,_=>exact pl_9_8
theorem plm_10 (j:Nat) (h:j < 10):plP 10 j=true:=by
 match j,h with
 | 0,_=>exact pl_10_0
 | 1,_=>exact pl_10_1
 | 2,_=>exact pl_10_2
 | 3,_=>exact pl_10_3
 | 4,_=>exact pl_10_4
 | 5,_=>exact pl_10_5
 | 6,_=>exact pl_10_6
 | 7,_=>exact pl_10_7
 | 8,_=>exact pl_10_8
 | 9,_=>exact pl_10_9
theorem pl_all (m j:Nat) (hm:m<=10) (hj:j < m):plB (lM [⟨(plT m j m).toArray⟩] ⟨#[97]⟩)=true/\plB (lM [⟨(plT m j m ++ plQ).toArray⟩] ⟨#[97]⟩)=true:=by
 have h:plP m j=true:=by
  have:m=1\/m=2\/m=3\/m=4\/m=5\/m=6\/m=7\/m=8\/m=9\/m=10:=by omega
  rcases this with rfl | rfl | rfl | rfl | rfl | rfl | rfl | rfl | rfl | rfl
  · exact plm_1 j hj
  · exact plm_2 j hj
  · exact plm_3 j hj
  · exact plm_4 j hj
  · exact plm_5 j hj
  · exact plm_6 j hj
  · exact plm_7 j hj
  · exact plm_8 j hj
  · exact plm_9 j hj
  · exact plm_10 j hj
 unfold plP at h;rwa [Bool.and_eq_true] at h
end Go.Proofs.Ythddifjhoniacaa
