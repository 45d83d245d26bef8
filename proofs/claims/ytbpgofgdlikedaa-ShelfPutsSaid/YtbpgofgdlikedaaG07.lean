/-
  What telltaleref02's Counts answers of any list of stamps in memory: of each node the count of its first right stamp.
  What telltaleref02's Of answers of any 64 counts: the vector of those above 0, in memory of its own.
  What telltaleref02's Covers, Compare, Greatest, Count, Same and Copy answer of any lists of stamps in memory.
  What telltaleref02's Same, Copy and Formed answer of any lists of stamps in memory.
-/
import Derived.Test.YtbpgofgdlikedaaG06
import Derived.Test.YtbpgofgdlikedaaG02
import Derived.Laws.Rows
import Derived.Laws.Tables
import Derived.Laws.CopyOwn
import Derived.Laws.ResultCell
import Derived.Deep.DeepCutAuto
import Derived.RegionTactic
import Derived.BigRegion
import Derived.Laws.OwnMore
import Derived.OwnWalk
import Derived.WalkSmall
import Derived.Deep.QuietTactic
import Derived.BigQuiet
import Derived.Lib.QuietBelow
import Derived.Test.YtbpgofgdlikedaaG05
namespace Go.Proofs.Ytbpgofgdlikedaa
open Go.RowKit

/-- A block that is an array of 64 numbers, one of them written anew. -/
theorem Blk.arr_put {w : World} {g : Nat} {t : TypeId} {f : Nat → Int} (h : Blk w g t (Ve.arr f)) (i : Nat) (hi : i < 64) (x : Int) : Blk (w.setCell ⟨g, i, none⟩ (.int .i64 x)) g t (Ve.arr fun j => if j = i then x else f j) := by
  have h2 := h.put i (.int .i64 x)
  rw [Ve.arr_set f i x hi] at h2
  exact h2
theorem Blk.arr_cell {w : World} {g : Nat} {t : TypeId} {f : Nat → Int} (h : Blk w g t (Ve.arr f)) (i : Nat) (hi : i < 64) : w.cell? ⟨g, i, none⟩ = some (.int .i64 (f i)) := h.cell (Ve.arr_get f i hi)
theorem Blk.same {w : World} {g : Nat} {t : TypeId} {f f' : Nat → Int} (h : Blk w g t (Ve.arr f)) (e : ∀ i, i < 64 → f i = f' i) : Blk w g t (Ve.arr f') := by rw [← Ve.arr_ext e]; exact h
theorem one_arr (f : Nat → Int) : (Ve.arr f).all (·.oneCell') = true := by
  rw [Array.all_eq_true_iff_forall_mem]
  intro x hx
  unfold Ve.arr at hx
  simp at hx
  obtain ⟨i, _, rfl⟩ := hx
  rfl

end Go.Proofs.Ytbpgofgdlikedaa
namespace Go.Proofs.Ytbpgofgdlikedaa
open Go.RowKit

theorem infoSt : (Try.prog.info? 25).map (fun i => (i.zero, i.size, i.bytes)) = some (some (.agg #[.int .i64 0, .int .i64 0]), 2, 16) := by kernel_rfl

/-- A list of stamps is answered, in memory of the call's own; what was there before is as it was. -/
def Gives (l : List (Int × Int)) (w : World) (e : Ending) (w' : World) : Prop :=
  ∃ v, e = .returned v ∧ w'.ownsRow w.heap.size 25 2 v l.length (stCells l) ∧ Below w.heap.size w w'

end Go.Proofs.Ytbpgofgdlikedaa
namespace Go.Proofs.Ytbpgofgdlikedaa
open Go.RowKit

/-- The count of any number of a node. -/
def countOf (l : List (Int × Int)) (n : Int) : Int := if 0 ≤ n ∧ n ≤ 63 then Ve.cnt l n.toNat else 0

/-- Is a stamp in a list? -/
def hasOf (l : List (Int × Int)) (c n : Int) : Bool := St.rgt c n && decide (c ≤ countOf l n)

end Go.Proofs.Ytbpgofgdlikedaa
namespace Go.Proofs.Ytbpgofgdlikedaa
open Go.RowKit

end Go.Proofs.Ytbpgofgdlikedaa
