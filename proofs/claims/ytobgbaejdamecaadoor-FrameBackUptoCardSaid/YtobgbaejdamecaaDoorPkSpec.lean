/-
  What is asked of each of pack's functions (its contract), as one structure. With it: the fixed fact 'alive'.
-/
import Derived.Test.YtobgbaejdamecaaDoorByRow
import Derived.Test.YtobgbaejdamecaaDoorAns
namespace Go.Proofs.YtobgbaejdamecaaDoor
open Go.RowKit

namespace Pk
/-- How many bytes a number's are. -/
def lenOf (n : Int) : Int := if n < 0 then 0 else ((bytesOf n.toNat).length : Int)
/-- A number's bytes behind others, the error's number. -/
def appn (l : List Int) (n : Int) : List Int × Int := if n < 0 then ([], 1) else (l ++ bytesOf n.toNat, 0)
end Pk

/-- A list of bytes is answered; what was there before is as it was. -/
def AnsB (l : List Int) (w : World) (en : Ending) (w' : World) : Prop := ∃ A c, en = .returned (.slice A l.length c) ∧ OneB w' A c l ∧ Below w.heap.size w w'
/-- A list of bytes and a number. -/
def AnsB2 (l : List Int) (e : Int) (w : World) (en : Ending) (w' : World) : Prop := ∃ A c, en = .returned (.tuple #[.slice A l.length c, .int .i64 e]) ∧ OneB w' A c l ∧ Below w.heap.size w w'
/-- A list of bytes in memory of the call's own, and two numbers. -/
def GivesB3 (l : List Int) (k e : Int) (w : World) (en : Ending) (w' : World) : Prop := ∃ v, en = .returned (.tuple #[v, .int .i64 k, .int .i64 e]) ∧ w'.ownsRow w.heap.size 5 1 v l.length (bCells l) ∧ Below w.heap.size w w'

theorem palive_of : Pk.appn [7] 300 = ([7, 172, 2], 0) := by decide

end Go.Proofs.YtobgbaejdamecaaDoor
