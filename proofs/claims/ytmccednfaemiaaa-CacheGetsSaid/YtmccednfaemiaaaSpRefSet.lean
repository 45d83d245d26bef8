/-
  Arrays of 256 marks in memory, and what telltaleref03's Set answers: which objects are in a list of spans.
-/
import Derived.Test.YtmccednfaemiaaaProg
import Derived.Test.YtmccednfaemiaaaSpMore
import Derived.Test.YtmccednfaemiaaaZeros
import Derived.Tactics
import Derived.Tactics2
import Derived.WalkKit
import Derived.WalkSpells
import Derived.OwnWalk
import Derived.Deep.QuietTactic
import Derived.BigQuiet
import Derived.Deep.RegionHeld3
import Derived.KernelRfl
import Derived.Lib.Hide
import Derived.Laws.Rows
import Derived.Laws.Tables
import Derived.Laws.CopyOwn
import Derived.Laws.ResultCell
import Derived.Deep.DeepCutAuto
import Derived.RegionTactic
import Derived.BigRegion
namespace Go.Proofs.Ytmccednfaemiaaa
open Go.RowKit

theorem info256 : (Try.prog.info? 52).map (·.size) = some 256 := by kernel_rfl
section
variable {w : World} {g : Nat} {t : TypeId} {f : Nat → Bool}
theorem Blk.marks_put (h : Blk w g t (Sp.arr f)) (i : Nat) (hi : i < 256) (x : Bool) : Blk (w.setCell ⟨g, i, none⟩ (.bool x)) g t (Sp.arr fun j => if j = i then x else f j) := by
  have h2 := h.put i (.bool x)
  rw [Sp.arr_set f i x hi] at h2
  exact h2
theorem Blk.marks_cell (h : Blk w g t (Sp.arr f)) (i : Nat) (hi : i < 256) : w.cell? ⟨g, i, none⟩ = some (.bool (f i)) := h.cell (Sp.arr_get f i hi)
theorem Blk.marks_same {f' : Nat → Bool} (h : Blk w g t (Sp.arr f)) (e : ∀ i, i < 256 → f i = f' i) : Blk w g t (Sp.arr f') := by rw [← Sp.arr_ext e]; exact h
end
theorem one_marks (f : Nat → Bool) : (Sp.arr f).all (·.oneCell') = true := by
  rw [Array.all_eq_true_iff_forall_mem]
  intro x hx
  unfold Sp.arr at hx
  simp at hx
  obtain ⟨i, _, rfl⟩ := hx
  rfl

end Go.Proofs.Ytmccednfaemiaaa
