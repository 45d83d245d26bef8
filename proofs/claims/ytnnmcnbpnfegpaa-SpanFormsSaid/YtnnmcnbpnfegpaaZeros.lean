/-
  The zero values of great arrays, by one name each, however the program's text was loaded: where the load made no name of its own, these stand for it.
-/
import Derived.Test.YtnnmcnbpnfegpaaProg
import Derived.Test.YtnnmcnbpnfegpaaSpMore
import Derived.KernelRfl
namespace Go.Proofs.Ytnnmcnbpnfegpaa.Fb

def Try.zeroCells38 : Array Value := Sp.arr fun _ => false

def Try.zeroCells48 : Array Value := Sp.arr fun _ => false

def Try.zeroCells51 : Array Value := Sp.nar fun _ => 0

end Go.Proofs.Ytnnmcnbpnfegpaa.Fb
namespace Go.Proofs.Ytnnmcnbpnfegpaa
open Fb

set_option maxRecDepth 100000 in
theorem marks_zero : Try.zeroCells38 = Sp.arr (fun _ => false) := by rfl
@[simp] theorem marks_zeroV (w : World) : (zeroValue 38).run Try.prog w = .ok (.agg Try.zeroCells38) w := by kernel_rfl
@[simp] theorem marks_zero_size : Try.zeroCells38.size = 256 := by rw [marks_zero, Sp.arr_size]
@[simp] theorem marks_zero_ne : ¬ Try.zeroCells38 = #[] := fun h => by have h2 := marks_zero_size; rw [h] at h2; cases h2

set_option maxRecDepth 100000 in
theorem set_zero : Try.zeroCells48 = Sp.arr (fun _ => false) := by rfl
@[simp] theorem set_zeroV (w : World) : (zeroValue 48).run Try.prog w = .ok (.agg Try.zeroCells48) w := by kernel_rfl
@[simp] theorem set_zero_size : Try.zeroCells48.size = 256 := by rw [set_zero, Sp.arr_size]
@[simp] theorem set_zero_ne : ¬ Try.zeroCells48 = #[] := fun h => by have h2 := set_zero_size; rw [h] at h2; cases h2

set_option maxRecDepth 100000 in
theorem change_zero : Try.zeroCells51 = Sp.nar (fun _ => 0) := by rfl
@[simp] theorem change_zeroV (w : World) : (zeroValue 51).run Try.prog w = .ok (.agg Try.zeroCells51) w := by kernel_rfl
@[simp] theorem change_zero_size : Try.zeroCells51.size = 257 := by rw [change_zero, Sp.nar_size]
@[simp] theorem change_zero_ne : ¬ Try.zeroCells51 = #[] := fun h => by have h2 := change_zero_size; rw [h] at h2; cases h2

end Go.Proofs.Ytnnmcnbpnfegpaa
