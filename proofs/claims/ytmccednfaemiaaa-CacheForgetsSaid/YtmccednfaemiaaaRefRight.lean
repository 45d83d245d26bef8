/-
  What telltaleref01's Right answers, for all stamps; each leaves the memory that was there as it was.
-/
import Derived.Test.YtmccednfaemiaaaProg
import Derived.Test.YtmccednfaemiaaaStampPlain
import Derived.Tactics
import Derived.Tactics2
import Derived.WalkKit
import Derived.WalkSpells
import Derived.OwnWalk
import Derived.Deep.QuietTactic
import Derived.BigQuiet
import Derived.Deep.RegionHeld3
import Derived.KernelRfl
import Derived.Lib.Hide
namespace Go.Proofs.Ytmccednfaemiaaa
open Go.RowKit

theorem rright_c (c n : Int) (w : World) (h : c < 1) :
    Calls Try.prog 29 #[.agg #[.int .i64 c, .int .i64 n]] w fun e w' => e = .returned (.bool (St.rgt c n)) ∧ Below w.heap.size w w' := by
  have h0 : St.rgt c n = false := by unfold St.rgt; simp; omega
  have H0 := Lib.hid h0; clear h0
  have hd0 : decide (1 ≤ c) = false := decide_eq_false (by omega)
  go_enter Try.func29, Try.ntmps29
  go_wp2
  go_ret
  rw [H0.out]
  exact ⟨rfl, by repeat (first | exact Below.refl _ _ | exact Nat.le_refl _ | (apply Below.drew) | (refine Below.alloc ?_ ?_ _) | (refine Below.setCell ?_ ?_ _) | (simp; done) | (simp; omega))⟩

theorem rright_n (c n : Int) (w : World) (h : 1 ≤ c) (hn : n < 0) :
    Calls Try.prog 29 #[.agg #[.int .i64 c, .int .i64 n]] w fun e w' => e = .returned (.bool (St.rgt c n)) ∧ Below w.heap.size w w' := by
  have h0 : St.rgt c n = false := by unfold St.rgt; simp; omega
  have H0 := Lib.hid h0; clear h0
  have hd0 : decide (1 ≤ c) = true := decide_eq_true (by omega)
  have hd1 : decide (0 ≤ n) = false := decide_eq_false (by omega)
  go_enter Try.func29, Try.ntmps29
  go_wp2
  go_ret
  rw [H0.out]
  exact ⟨rfl, by repeat (first | exact Below.refl _ _ | exact Nat.le_refl _ | (apply Below.drew) | (refine Below.alloc ?_ ?_ _) | (refine Below.setCell ?_ ?_ _) | (simp; done) | (simp; omega))⟩

theorem rright_m (c n : Int) (w : World) (h : 1 ≤ c) (hn : 63 < n) :
    Calls Try.prog 29 #[.agg #[.int .i64 c, .int .i64 n]] w fun e w' => e = .returned (.bool (St.rgt c n)) ∧ Below w.heap.size w w' := by
  have h0 : St.rgt c n = false := by unfold St.rgt; simp; omega
  have H0 := Lib.hid h0; clear h0
  have hd0 : decide (1 ≤ c) = true := decide_eq_true (by omega)
  have hd1 : decide (0 ≤ n) = true := decide_eq_true (by omega)
  have hd2 : decide (n ≤ 63) = false := decide_eq_false (by omega)
  go_enter Try.func29, Try.ntmps29
  go_wp2
  go_ret
  rw [H0.out]
  exact ⟨rfl, by repeat (first | exact Below.refl _ _ | exact Nat.le_refl _ | (apply Below.drew) | (refine Below.alloc ?_ ?_ _) | (refine Below.setCell ?_ ?_ _) | (simp; done) | (simp; omega))⟩

theorem rright_y (c n : Int) (w : World) (h : 1 ≤ c) (hn : 0 ≤ n) (hm : n ≤ 63) :
    Calls Try.prog 29 #[.agg #[.int .i64 c, .int .i64 n]] w fun e w' => e = .returned (.bool (St.rgt c n)) ∧ Below w.heap.size w w' := by
  have h0 : St.rgt c n = true := by unfold St.rgt; simp; omega
  have H0 := Lib.hid h0; clear h0
  have hd0 : decide (1 ≤ c) = true := decide_eq_true (by omega)
  have hd1 : decide (0 ≤ n) = true := decide_eq_true (by omega)
  have hd2 : decide (n ≤ 63) = true := decide_eq_true (by omega)
  go_enter Try.func29, Try.ntmps29
  go_wp2
  go_ret
  rw [H0.out]
  exact ⟨rfl, by repeat (first | exact Below.refl _ _ | exact Nat.le_refl _ | (apply Below.drew) | (refine Below.alloc ?_ ?_ _) | (refine Below.setCell ?_ ?_ _) | (simp; done) | (simp; omega))⟩

/-- telltaleref01's Right. -/
theorem rright_any (c n : Int) (w : World) :
    Calls Try.prog 29 #[.agg #[.int .i64 c, .int .i64 n]] w fun e w' => e = .returned (.bool (St.rgt c n)) ∧ Below w.heap.size w w' := by
  by_cases h : c < 1
  · exact rright_c c n w h
  by_cases h1 : n < 0
  · exact rright_n c n w (by omega) h1
  by_cases h2 : 63 < n
  · exact rright_m c n w (by omega) h2
  · exact rright_y c n w (by omega) (by omega) (by omega)

end Go.Proofs.Ytmccednfaemiaaa
