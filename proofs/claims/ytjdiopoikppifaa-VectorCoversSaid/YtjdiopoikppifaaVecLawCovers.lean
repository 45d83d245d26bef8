/-
  VectorCovers walked from vector's contracts.
-/
import Derived.Test.YtjdiopoikppifaaVecSpec
namespace Go.Proofs.Ytjdiopoikppifaa
open Go.RowKit

set_option maxHeartbeats 1600000 in
theorem lawCovers_any (S : VecSpec) (A B : Option Addr) (c d : Nat) (l r : List (Int × Int)) (w : World) (h1 : OneL w A c l) (h2 : OneL w B d r) :
    Calls Try.prog 4 #[.slice A l.length c, .slice B r.length d] w (Says (.bool true) w) := by
  have n0 := alive_any S
  have n1 := fun wx (hb : Below w.heap.size w wx) => S.covers A B c d l r wx (h1.later hb) (h2.later hb)
  have n2 := fun wx (hb : Below w.heap.size w wx) => rcovers_any A B c d l r wx h1.len h2.len (h1.later hb).stamps (h2.later hb).stamps
  have n3 := fun wx (hb : Below w.heap.size w wx) => S.compare A B c d l r wx (h1.later hb) (h2.later hb)
  have n4 := fun wx (hb : Below w.heap.size w wx) => rcompare2_any A B c d l r wx h1.len h2.len (h1.later hb).stamps (h2.later hb).stamps
  obtain ⟨x, hx⟩ : ∃ x, Ve.cov (Ve.cnt l) (Ve.cnt r) = x := ⟨_, rfl⟩
  obtain ⟨y, hy⟩ : ∃ y, Ve.stand (Ve.cnt l) (Ve.cnt r) = y := ⟨_, rfl⟩
  rw [hx] at n1 n2
  rw [hy] at n3 n4
  have N0 := Lib.hid n0
  have N1 := Lib.hid n1
  have N2 := Lib.hid n2
  have N3 := Lib.hid n3
  have N4 := Lib.hid n4
  clear n0 n1 n2 n3 n4 hx hy h1 h2
  go_enter Try.func4, Try.ntmps4
  go_wp2_with fail
  refine (N0.out _).mono ?_
  rintro e w1 ⟨rfl, b1⟩
  go_wp2_with fail
  refine (N1.out _ b1).mono ?_
  rintro e w2 ⟨rfl, b2⟩
  have b2' := below_on b1 b2
  go_wp2_with fail
  refine (N2.out _ b2').mono ?_
  rintro e w3 ⟨rfl, b3⟩
  have b3' := below_on b2' b3
  go_wp2_with fail
  refine (N3.out _ b3').mono ?_
  rintro e w4 ⟨rfl, b4⟩
  have b4' := below_on b3' b4
  go_wp2_with fail
  refine (N4.out _ b4').mono ?_
  rintro e w5 ⟨rfl, b5⟩
  go_wp2
  go_ret
  exact ⟨rfl, below_on b4' b5⟩

end Go.Proofs.Ytjdiopoikppifaa
