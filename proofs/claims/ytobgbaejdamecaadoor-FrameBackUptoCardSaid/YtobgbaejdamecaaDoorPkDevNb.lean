/-
  What pack's numberBytes answers.
-/
import Derived.Test.YtobgbaejdamecaaDoorPkSpec
namespace Go.Proofs.YtobgbaejdamecaaDoor
open Go.RowKit

namespace Pk
theorem or_128 (m : Nat) : bits BinOp.or IntKind.u8 ((m : Int) % 256) 128 = (m : Int) % 128 + 128 := by
  have h : ∀ n : Fin 256, bits BinOp.or IntKind.u8 ((n.val : Nat) : Int) 128 = ((n.val % 128 + 128 : Nat) : Int) := by decide +kernel
  have k := h ⟨m % 256, by omega⟩
  simp only at k
  rw [show ((m : Int) % 256) = ((m % 256 : Nat) : Int) from by omega, k]
  omega
end Pk

end Go.Proofs.YtobgbaejdamecaaDoor
