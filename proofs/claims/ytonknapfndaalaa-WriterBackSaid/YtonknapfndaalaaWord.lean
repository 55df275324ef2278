/- Names: the walks of Word, of the program's and the reference's. -/
import Derived.Test.YtonknapfndaalaaChecked
import Derived.Test.YtonknapfndaalaaGa
import Derived.WalkLawsBesides
import Derived.Handy
import Derived.KernelRfl
import Derived.BigQuiet
namespace Go.Proofs.Ytonknapfndaalaa
set_option linter.unusedVariables false
set_option maxRecDepth 1000000
open Go.RowKit Go.Sort
def isLet (c : Int) : Bool := decide (97 ≤ c) && decide (c ≤ 122) || decide (65 ≤ c) && decide (c ≤ 90)
def isDig (c : Int) : Bool := decide (48 ≤ c) && decide (c ≤ 57)
def okAt (i : Nat) (c : Int) : Bool := isLet c || (!(i == 0) && (isDig c || c == 95))
def allAt (s : ByteArray) : Nat → Bool
 | 0 => true
 | k + 1 => allAt s k && okAt k (byt s k)
theorem allAt_no {s : ByteArray} {k : Nat} (h : okAt k (byt s k) = false) : ∀ n, k < n → allAt s n = false
 | 0, hn => by omega
 | n + 1, hn => by
  unfold allAt
  by_cases e : k = n
  ·
   subst e; rw [h]; simp
  ·
   rw [allAt_no h n (by omega)]; simp
def resB (s : ByteArray) : Bool := s.toList.isEmpty || s.toList == [109, 111, 100, 117, 108, 101] || s.toList == [105, 109, 112, 111, 114, 116] || s.toList == [119, 97, 116, 101, 114]
/-- May it be a name? -/
def wordB (s : ByteArray) : Bool := !(resB s) && allAt s s.size && decide ((s.size : Int) ≤ 12)
end Go.Proofs.Ytonknapfndaalaa
