/-
  The zero values of great arrays, by one name each, however the program's text was loaded: where the load made no name of its own, these stand for it.
-/
import Derived.Test.YtmccednfaemiaaaProg
import Derived.Test.YtmccednfaemiaaaSpMore
import Derived.KernelRfl
namespace Go.Proofs.Ytmccednfaemiaaa.Fb

def Try.zeroCells52 : Array Value := Sp.arr fun _ => false

end Go.Proofs.Ytmccednfaemiaaa.Fb
namespace Go.Proofs.Ytmccednfaemiaaa
open Fb

set_option maxRecDepth 100000 in
theorem marks_zero : Try.zeroCells52 = Sp.arr (fun _ => false) := by rfl
@[simp] theorem marks_zeroV (w : World) : (zeroValue 52).run Try.prog w = .ok (.agg Try.zeroCells52) w := by kernel_rfl
@[simp] theorem marks_zero_size : Try.zeroCells52.size = 256 := by rw [marks_zero, Sp.arr_size]
@[simp] theorem marks_zero_ne : ¬ Try.zeroCells52 = #[] := fun h => by have h2 := marks_zero_size; rw [h] at h2; cases h2

end Go.Proofs.Ytmccednfaemiaaa
