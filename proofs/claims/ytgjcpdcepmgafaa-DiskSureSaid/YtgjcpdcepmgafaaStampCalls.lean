/-
  What the functions of package stamp (Compare, and Right beside it), those of telltaleref01, and cmp.Compare at int answer, for all arguments; each leaves the memory that was there as it was.
-/
import Derived.Test.YtgjcpdcepmgafaaProg
import Derived.Test.YtgjcpdcepmgafaaStampRight
import Derived.Tactics
import Derived.Tactics2
import Derived.WalkKit
import Derived.WalkSpells
import Derived.OwnWalk
import Derived.Deep.QuietTactic
import Derived.BigQuiet
import Derived.Deep.RegionHeld3
import Derived.KernelRfl
import Derived.Lib.Hide
namespace Go.Proofs.Ytgjcpdcepmgafaa
open Go.RowKit

theorem isNaN_any (a : Int) (w : World) : Calls Try.prog 53 #[.int .i64 a] w fun e w' => e = .returned (.bool false) ∧ w = w' := by
  go_enter Try.func53, Try.ntmps53
  go_wp2
  go_ret
  simp

theorem cmp_any (a b : Int) (w : World) : Calls Try.prog 51 #[.int .i64 a, .int .i64 b] w fun e w' => e = .returned (.int .i64 (St.cmpI a b)) ∧ w = w' := by
  rcases Int.lt_trichotomy a b with h | h | h
  · go_enter Try.func51, Try.ntmps51
    go_wp2_with (go_at_call 53; refine (isNaN_any _ _).mono ?_; rintro e w' ⟨rfl, rfl⟩)
    go_ret
    rw [St.cmpI_lt h]; exact ⟨rfl, rfl⟩
  · subst h
    go_enter Try.func51, Try.ntmps51
    go_wp2_with (go_at_call 53; refine (isNaN_any _ _).mono ?_; rintro e w' ⟨rfl, rfl⟩)
    go_ret
    rw [St.cmpI_eq rfl]; exact ⟨rfl, rfl⟩
  · have h2 : ¬ a < b := by omega
    go_enter Try.func51, Try.ntmps51
    go_wp2_with (go_at_call 53; refine (isNaN_any _ _).mono ?_; rintro e w' ⟨rfl, rfl⟩)
    go_ret
    rw [St.cmpI_gt h]; exact ⟨rfl, rfl⟩

end Go.Proofs.Ytgjcpdcepmgafaa
