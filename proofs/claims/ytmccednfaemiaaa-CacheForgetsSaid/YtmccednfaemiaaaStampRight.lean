/-
  What stamp.Right and its helper answer, for all stamps; each leaves the memory that was there as it was.
-/
import Derived.Test.YtmccednfaemiaaaProg
import Derived.Test.YtmccednfaemiaaaRefRight
import Derived.Tactics
import Derived.Tactics2
import Derived.WalkKit
import Derived.WalkSpells
import Derived.OwnWalk
import Derived.Deep.QuietTactic
import Derived.BigQuiet
import Derived.Deep.RegionHeld3
import Derived.KernelRfl
import Derived.Lib.Hide
namespace Go.Proofs.Ytmccednfaemiaaa
open Go.RowKit

theorem rightNode_any (n : Int) (w : World) : Calls Try.prog 32 #[.int .i64 n] w fun e w' => e = .returned (.bool (St.rgtN n)) ∧ w = w' := by
  by_cases h0 : 0 ≤ n
  · by_cases h1 : n < 64
    · go_enter Try.func32, Try.ntmps32
      go_wp2
      go_ret
      rw [show St.rgtN n = true from decide_eq_true (by omega)]; exact ⟨rfl, rfl⟩
    · go_enter Try.func32, Try.ntmps32
      go_wp2
      go_ret
      rw [show St.rgtN n = false from decide_eq_false (by omega)]; exact ⟨rfl, rfl⟩
  · go_enter Try.func32, Try.ntmps32
    go_wp2
    go_ret
    rw [show St.rgtN n = false from decide_eq_false (by omega)]; exact ⟨rfl, rfl⟩

/-- stamp.Right. -/
theorem right_any (c n : Int) (w : World) :
    Calls Try.prog 31 #[.agg #[.int .i64 c, .int .i64 n]] w fun e w' => e = .returned (.bool (St.rgt c n)) ∧ Below w.heap.size w w' := by
  by_cases h : 1 ≤ c
  · have h1 : decide (1 ≤ c) = true := decide_eq_true h
    have h2 : St.rgt c n = St.rgtN n := by unfold St.rgt St.rgtN; simp [h]
    have H2 := Lib.hid h2; clear h2
    go_enter Try.func31, Try.ntmps31
    go_wp2_with (go_at_call 32; refine (rightNode_any _ _).mono ?_; rintro e w' ⟨rfl, rfl⟩)
    go_ret
    rw [H2.out]
    exact ⟨rfl, by repeat (first | exact Below.refl _ _ | exact Nat.le_refl _ | (apply Below.drew) | (refine Below.alloc ?_ ?_ _) | (refine Below.setCell ?_ ?_ _) | (simp; done) | (simp; omega))⟩
  · have h1 : decide (1 ≤ c) = false := decide_eq_false h
    have h2 : St.rgt c n = false := by unfold St.rgt; simp [h]
    have H2 := Lib.hid h2; clear h2
    go_enter Try.func31, Try.ntmps31
    go_wp2_with (go_at_call 32; refine (rightNode_any _ _).mono ?_; rintro e w' ⟨rfl, rfl⟩)
    go_ret
    rw [H2.out]
    exact ⟨rfl, by repeat (first | exact Below.refl _ _ | exact Nat.le_refl _ | (apply Below.drew) | (refine Below.alloc ?_ ?_ _) | (refine Below.setCell ?_ ?_ _) | (simp; done) | (simp; omega))⟩

end Go.Proofs.Ytmccednfaemiaaa
