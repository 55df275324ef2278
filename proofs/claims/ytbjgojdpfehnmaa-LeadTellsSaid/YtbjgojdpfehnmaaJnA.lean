/- The grammar that modules are, joined: the document's answer. -/
import Derived.Test.YtbjgojdpfehnmaaRgR
namespace Go.Proofs.Ytbjgojdpfehnmaa
set_option linter.unusedVariables false
open Go.RowKit Go.Sort
/-- A node: its kids by their numbers. -/
structure Nj where
 op : Int
 tx : ByteArray
 s0 : Int
 s1 : Int
 s2 : Int
 s3 : Int
 ks : List Nat
 tg : Int
 mo : Nat
 ru : Int
/-- A rule: its module, its name, its body's node. -/
structure Hj where
 mo : Nat
 nm : ByteArray
 bo : Nat
/-- A grammar. -/
structure Gj where
 ms : List ByteArray
 ns : List Nj
 hs : List Hj
 ws : List Int
 st : Int
/-- A fault: its number, its module, its rule. -/
abbrev Ft3 := Int × Int × Int
def orF : Option Ft3 → Option Ft3 → Option Ft3
 | some f, _ => some f
 | none, b => b
/-- Where a reference leads; none: nowhere. -/
def toO (ML : List Md) (F : List Nat) (mod : Nat) (e : Ex) : Option Int :=
 if e.op = 11 then (match resO ML (mod : Int) e.text with
  | (m, r, true) => some ((F.getD m.toNat 0 : Nat) + r)
  | (_, _, false) => none)
 else some (-1)
def nodeJ (e : Ex) (ks : List Nat) (tt : Int) (mod : Nat) (ru : Int) : Nj := ⟨e.op, e.text, e.s0, e.s1, e.s2, e.s3, ks, tt, mod, ru⟩
def setK (N : List Nj) (n : Nat) (ks : List Nat) : List Nj := N.modify n (fun x => { x with ks := ks })
abbrev Pt := List Nj × Option Ft3 × Nat
abbrev Pk := List Nj × Option Ft3 × List Nat
/-- The parts of an expression, one behind the other. -/
def kidsF (P : Ex → List Nj → Pt) : List Ex → List Nj → List Nat → Pk
 | [], N, ks => (N, none, ks)
 | y :: r, N, ks => match P y N with
  | (N', none, n) => kidsF P r N' (ks ++ [n])
  | (N', some f, n) => (N', some f, ks ++ [n])
def endK (n : Nat) : Pk → Pt
 | (N, none, ks) => (setK N n ks, none, n)
 | (N, some f, _) => (N, some f, n)
/-- An expression's nodes, behind those of N. -/
def putN (ML : List Md) (F : List Nat) (mod : Nat) (ru : Int) : Nat → Ex → List Nj → Pt
 | 0, _, N => (N, none, 0)
 | d + 1, e, N => if 160 ≤ N.length then (N, some (3, (mod : Int), ru), 0) else match toO ML F mod e with
  | none => (N, some (5, (mod : Int), ru), 0)
  | some tt => endK N.length (kidsF (putN ML F mod ru d) e.kids (N ++ [nodeJ e [] tt mod ru]) [])
/-- Names, none twice, none another one. -/
def apartB (no : ByteArray) : List ByteArray → List ByteArray → Bool
 | _, [] => true
 | B, x :: r => wordB x && !(x.toList == no.toList) && !(hasB B x) && apartB no (B ++ [x]) r
/-- May it be a module (its water, if it has none, is empty)? -/
def rgtM (m : Md) : Bool := wordB m.nm && decide (m.im.length ≤ 4) && apartB m.nm [] m.im && decide (m.ru.length ≤ 24) && (!m.wet || rightX 53 m.wa) && m.ru.all (fun r => rightX 53 r.2) && apartB ⟨#[]⟩ [] (m.ru.map (·.1))
def hdE (ML : List Md) (i : Nat) (m : Md) : Option Ft3 :=
 if 4 ≤ i then some (3, (i : Int), -1) else if rgtM m = false then some (1, (i : Int), -1) else if findN ML m.nm = (i : Int) then none else some (4, (i : Int), -1)
/-- How many rules stand ahead of each module's. -/
def fstL : List Md → Nat → List Nat
 | [], _ => []
 | m :: r, s => s :: fstL r (s + m.ru.length)
def hd1 (ML : List Md) : List Md → Nat → Nat → Option Ft3 → Option Ft3
 | [], _, _, F => F
 | m :: r, i, s, F => hd1 ML r (i + 1) (s + m.ru.length) (orF (orF F (hdE ML i m)) (if 24 < s + m.ru.length then some (3, (i : Int), -1) else none))
def imF (ML : List Md) (i : Nat) : List ByteArray → Option Ft3 → Option Ft3
 | [], F => F
 | x :: r, F => imF ML i r (if findN ML x < 0 then orF F (some (5, (i : Int), -1)) else F)
def hd2 (ML : List Md) : List Md → Nat → Option Ft3 → Option Ft3
 | [], _, F => F
 | m :: r, i, F => hd2 ML r (i + 1) (imF ML i m.im F)
/-- The rules of a module, one behind the other. -/
def ruF (P : Int → Ex → List Nj → Pt) (mod : Nat) : List (ByteArray × Ex) → Nat → List Nj → List Hj → List Nj × Option Ft3 × List Hj
 | [], _, N, H => (N, none, H)
 | r :: rs, k, N, H => match P (k : Int) r.2 N with
  | (N', none, n) => ruF P mod rs (k + 1) N' (H ++ [⟨mod, r.1, n⟩])
  | (N', some f, n) => (N', some f, H ++ [⟨mod, r.1, n⟩])
structure Sj where
 ms : List ByteArray
 ns : List Nj
 hs : List Hj
 ws : List Int
/-- A module's water. -/
def waF (P : Int → Ex → List Nj → Pt) (m : Md) (N : List Nj) : List Nj × Option Ft3 × Int :=
 if m.wet = true then (match P (-1) m.wa N with | (N', f, n) => (N', f, (n : Int))) else (N, none, -1)
def mdF (P : Nat → Int → Ex → List Nj → Pt) : List Md → Nat → Sj → Sj × Option Ft3
 | [], _, s => (s, none)
 | m :: r, i, s => match waF (P i) m s.ns with
  | (N1, some f, wt) => (⟨s.ms ++ [m.nm], N1, s.hs, s.ws ++ [wt]⟩, some f)
  | (N1, none, wt) => match ruF (P i) i m.ru 0 N1 s.hs with
   | (N2, some f, H) => (⟨s.ms ++ [m.nm], N2, H, s.ws ++ [wt]⟩, some f)
   | (N2, none, H) => mdF P r (i + 1) ⟨s.ms ++ [m.nm], N2, H, s.ws ++ [wt]⟩
/-- The rule that a text names: with a module's name of any module; alone as in the first one. -/
def startO (ML : List Md) (F : List Nat) (s : ByteArray) : Option Int :=
 if splitB s = true then
  (if (splitM s).toList = [] then (match resO ML 0 s with
   | (m, r, true) => some ((F.getD m.toNat 0 : Nat) + r)
   | (_, _, false) => none)
  else if 0 ≤ findN ML (splitM s) then
   (if 0 ≤ ruleAt ML (findN ML (splitM s)) (splitR s) then some ((F.getD (findN ML (splitM s)).toNat 0 : Nat) + ruleAt ML (findN ML (splitM s)) (splitR s)) else none)
  else none)
 else none
def hdO (ML : List Md) : Option Ft3 := hd2 ML ML 0 (hd1 ML ML 0 0 none)
def mdO (ML : List Md) : Sj × Option Ft3 := mdF (fun i k => putN ML (fstL ML 0) i k 53) ML 0 ⟨[], [], [], []⟩
def joinO (ML : List Md) (s : ByteArray) : Except Ft3 Gj := match hdO ML with
 | some f => .error f
 | none => match mdO ML with
  | (_, some f) => .error f
  | (g, none) => match startO ML (fstL ML 0) s with
   | none => .error (5, -1, -1)
   | some st => .ok ⟨g.ms, g.ns, g.hs, g.ws, st⟩
/-- The small dialect's grammar. -/
def miniG : Gj := match joinO miniM ⟨#[109, 97, 105, 110]⟩ with | .ok g => g | .error _ => ⟨[], [], [], [], 0⟩
theorem miniG_ok : joinO miniM ⟨#[109, 97, 105, 110]⟩ = .ok miniG := by kernel_rfl
theorem miniG_len : miniG.ns.length = 23 := by kernel_rfl
end Go.Proofs.Ytbjgojdpfehnmaa
