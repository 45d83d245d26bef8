/-
  Bodies in memory; what telltaleref06's Right, empty and SameBody answer.
-/
import Derived.Test.YtmccednfaemiaaaBdPlain
import Derived.Test.YtmccednfaemiaaaAns
import Derived.Test.YtmccednfaemiaaaRefRight
namespace Go.Proofs.Ytmccednfaemiaaa
open Go.RowKit

/-- A body's cells. -/
def bdCells (D : Option Addr) (d : Nat) (x : Bd) : Array Value := #[.int .i64 x.o, .int .i64 x.c, .int .i64 x.n, .slice D x.v.length d]
theorem bd_cells {w : World} {g : Nat} {t : TypeId} {D : Option Addr} {d : Nat} {x : Bd} (h : Blk w g t (bdCells D d x)) : w.cell? ⟨g, 0, none⟩ = some (.int .i64 x.o) ∧ w.cell? ⟨g, 1, none⟩ = some (.int .i64 x.c) ∧ w.cell? ⟨g, 2, none⟩ = some (.int .i64 x.n) ∧ w.cell? ⟨g, 3, none⟩ = some (.slice D x.v.length d) :=
  ⟨h.cell rfl, h.cell rfl, h.cell rfl, h.cell rfl⟩

set_option maxHeartbeats 3200000 in
theorem bright_any (D : Option Addr) (d : Nat) (x : Bd) (w : World) :
    Calls Try.prog 24 #[.agg (bdCells D d x)] w (Says (.bool (Wi.bright x)) w) := by
  obtain ⟨o, c, n, l⟩ := x
  unfold bdCells
  simp only
  obtain ⟨W, hW⟩ : ∃ W, w.alloc (.cells #[.int .i64 o, .int .i64 c, .int .i64 n, .slice D l.length d] 38) = W := ⟨_, rfl⟩
  have hb0 : Below w.heap.size w W := by rw [← hW]; exact below_new (Below.refl _ _) _
  have hB0 : Blk W w.heap.size 38 #[.int .i64 o, .int .i64 c, .int .i64 n, .slice D l.length d] := by rw [← hW]; exact Blk.new w _ _
  have c0 := hB0.cell (i := 0) rfl
  have c1 := hB0.cell (i := 1) rfl
  have c2 := hB0.cell (i := 2) rfl
  have c3 := hB0.cell (i := 3) rfl
  have hR := Lib.hid (show Wi.bright ⟨o, c, n, l⟩ = (decide (0 ≤ o) && (decide (o ≤ 255) && (St.rgt c n && decide (l.length ≤ 256)))) from rfl)
  have HW := Lib.hid hW
  have NR := Lib.hid (rright_any c n W)
  obtain ⟨rg, hrg⟩ : ∃ rg, St.rgt c n = rg := ⟨_, rfl⟩
  rw [hrg] at hR NR
  clear hW hrg
  by_cases h1 : 0 ≤ o
  · have d1 : decide (0 ≤ o) = true := decide_eq_true h1
    by_cases h2 : o ≤ 255
    · have d2 : decide (o ≤ 255) = true := decide_eq_true h2
      cases rg with
      | true =>
        go_enter Try.func24, Try.ntmps24
        go_wp2_with fail
        rw [HW.out]
        refine NR.out.mono ?_
        rintro e w1 ⟨rfl, b1⟩
        have e3 := cell_later b1 c3
        clear c0 c1 c2 c3
        by_cases h3 : l.length ≤ 256
        · have d3 : decide ((l.length : Int) ≤ 256) = true := decide_eq_true (by omega)
          go_wp2
          go_ret
          exact ⟨by rw [hR.out, d1, d2, decide_eq_true h3]; first | rfl | simp, below_on hb0 b1⟩
        · have d3 : decide ((l.length : Int) ≤ 256) = false := decide_eq_false (by omega)
          go_wp2
          go_ret
          exact ⟨by rw [hR.out, d1, d2, decide_eq_false h3]; first | rfl | simp, below_on hb0 b1⟩
      | false =>
        go_enter Try.func24, Try.ntmps24
        go_wp2_with fail
        rw [HW.out]
        refine NR.out.mono ?_
        rintro e w1 ⟨rfl, b1⟩
        go_wp2
        go_ret
        exact ⟨by rw [hR.out, d1, d2]; first | rfl | simp, below_on hb0 b1⟩
    · have d2 : decide (o ≤ 255) = false := decide_eq_false h2
      go_enter Try.func24, Try.ntmps24
      go_wp2_with fail
      rw [HW.out]
      go_wp2
      go_ret
      exact ⟨by rw [hR.out, d1, d2]; first | rfl | simp, hb0⟩
  · have d1 : decide (0 ≤ o) = false := decide_eq_false h1
    go_enter Try.func24, Try.ntmps24
    go_wp2_with fail
    rw [HW.out]
    go_wp2
    go_ret
    exact ⟨by rw [hR.out, d1]; first | rfl | simp, hb0⟩

namespace Wi
/-- Has a body nothing in it but its object? -/
def bempty (x : Bd) : Bool := decide (x.c = 0 ∧ x.n = 0) && decide (x.v = [])
/-- The same bodies? -/
def bsame (x y : Bd) : Bool := decide (x.o = y.o) && (decide (x.c = y.c ∧ x.n = y.n) && decide (x.v = y.v))
theorem bsame_iff (x y : Bd) : bsame x y = true ↔ x = y := by
  obtain ⟨o, c, n, l⟩ := x
  obtain ⟨o', c', n', l'⟩ := y
  unfold bsame
  simp [and_assoc]
end Wi

end Go.Proofs.Ytmccednfaemiaaa
