/- How closely an expression binds: the walks of closeness and level. -/
import Derived.Test.YtonknapfndaalaaWrt
import Derived.Test.YtonknapfndaalaaChecked
import Derived.Test.YtonknapfndaalaaGa
namespace Go.Proofs.Ytonknapfndaalaa
set_option linter.unusedVariables false
set_option maxRecDepth 1000000
open Go.RowKit
set_option maxHeartbeats 1600000 in
theorem clo_any (op : Int) (w : World) : Calls Try.prog 37 #[.int .i64 op] w fun e w' => e = .returned (.int .i64 (cloX op)) ∧ w' = w := by
 by_cases h5 : op = 5
 ·
  subst h5
  go_enter Try.func37, Try.ntmps37
  go_wp2
  go_ret
  exact ⟨rfl, rfl⟩
 by_cases h4 : op = 4
 ·
  subst h4
  go_enter Try.func37, Try.ntmps37
  go_wp2
  go_ret
  exact ⟨rfl, rfl⟩
 by_cases h9 : op = 9
 ·
  subst h9
  go_enter Try.func37, Try.ntmps37
  go_wp2
  go_ret
  exact ⟨rfl, rfl⟩
 by_cases h10 : op = 10
 ·
  subst h10
  go_enter Try.func37, Try.ntmps37
  go_wp2
  go_ret
  exact ⟨rfl, rfl⟩
 by_cases h13 : op = 13
 ·
  subst h13
  go_enter Try.func37, Try.ntmps37
  go_wp2
  go_ret
  exact ⟨rfl, rfl⟩
 by_cases h12 : op = 12
 ·
  subst h12
  go_enter Try.func37, Try.ntmps37
  go_wp2
  go_ret
  exact ⟨rfl, rfl⟩
 by_cases h6 : op = 6
 ·
  subst h6
  go_enter Try.func37, Try.ntmps37
  go_wp2
  go_ret
  exact ⟨rfl, rfl⟩
 by_cases h7 : op = 7
 ·
  subst h7
  go_enter Try.func37, Try.ntmps37
  go_wp2
  go_ret
  exact ⟨rfl, rfl⟩
 by_cases h8 : op = 8
 ·
  subst h8
  go_enter Try.func37, Try.ntmps37
  go_wp2
  go_ret
  exact ⟨rfl, rfl⟩
 have e5 : (op == 5) = false := beq_eq_false_iff_ne.2 h5
 have e4 : (op == 4) = false := beq_eq_false_iff_ne.2 h4
 have e9 : (op == 9) = false := beq_eq_false_iff_ne.2 h9
 have e10 : (op == 10) = false := beq_eq_false_iff_ne.2 h10
 have e13 : (op == 13) = false := beq_eq_false_iff_ne.2 h13
 have e12 : (op == 12) = false := beq_eq_false_iff_ne.2 h12
 have e6 : (op == 6) = false := beq_eq_false_iff_ne.2 h6
 have e7 : (op == 7) = false := beq_eq_false_iff_ne.2 h7
 have e8 : (op == 8) = false := beq_eq_false_iff_ne.2 h8
 have hc : cloX op = 4 := by unfold cloX; rw [if_neg h5, if_neg h4, if_neg (by omega), if_neg (by omega)]
 rw [hc]
 clear hc h5 h4 h9 h10 h13 h12 h6 h7 h8
 go_enter Try.func37, Try.ntmps37
 go_wp2
 go_ret
 exact ⟨rfl, rfl⟩
end Go.Proofs.Ytonknapfndaalaa
