/-
  A body by its parts, and which are as they must be. Nothing of the program is imported.
-/
import Derived.Test.YtmccednfaemiaaaByPlain
namespace Go.Proofs.Ytmccednfaemiaaa
open Go.RowKit

/-- A body: its object, its stamp's count and node, its value. -/
structure Bd where
  o : Int
  c : Int
  n : Int
  v : List Int
namespace Wi
/-- Is a body as it must be? -/
def bright (x : Bd) : Bool := decide (0 ≤ x.o) && (decide (x.o ≤ 255) && (St.rgt x.c x.n && decide (x.v.length ≤ 256)))
end Wi

end Go.Proofs.Ytmccednfaemiaaa
