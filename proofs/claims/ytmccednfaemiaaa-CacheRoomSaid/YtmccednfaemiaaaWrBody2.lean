/-
  What telltaleref06's empty and SameBody answer.
-/
import Derived.Test.YtmccednfaemiaaaWrBody
import Derived.Test.YtmccednfaemiaaaByRef
namespace Go.Proofs.Ytmccednfaemiaaa
open Go.RowKit

set_option maxHeartbeats 3200000 in
theorem bsamebody_any (D D' : Option Addr) (d d' : Nat) (x y : Bd) (w : World) (hx : OneB w D d x.v) (hy : OneB w D' d' y.v) :
    Calls Try.prog 23 #[.agg (bdCells D d x), .agg (bdCells D' d' y)] w (Says (.bool (Wi.bsame x y)) w) := by
  obtain ⟨o, c, n, l⟩ := x
  obtain ⟨o', c', n', l'⟩ := y
  unfold bdCells
  simp only at hx hy ⊢
  obtain ⟨W, hW⟩ : ∃ W, (w.alloc (.cells #[.int .i64 o, .int .i64 c, .int .i64 n, .slice D l.length d] 38)).alloc (.cells #[.int .i64 o', .int .i64 c', .int .i64 n', .slice D' l'.length d'] 38) = W := ⟨_, rfl⟩
  have b1 := below_new (Below.refl w.heap.size w) (.cells #[.int .i64 o, .int .i64 c, .int .i64 n, .slice D l.length d] 38)
  have hb0 : Below w.heap.size w W := by rw [← hW]; exact below_new b1 _
  have NS := Lib.hid (bsame_any D D' d d' l l' W (hx.later hb0) (hy.later hb0))
  have hR := Lib.hid (show Wi.bsame ⟨o, c, n, l⟩ ⟨o', c', n', l'⟩ = (decide (o = o') && (decide (c = c' ∧ n = n') && decide (l = l'))) from rfl)
  obtain ⟨sm, hsm⟩ : ∃ sm, decide (l = l') = sm := ⟨_, rfl⟩
  rw [hsm] at NS hR
  have HW := Lib.hid hW
  clear hW hsm hx hy b1
  by_cases h0 : o = o'
  · subst h0
    by_cases h1 : c = c'
    · subst h1
      by_cases h2 : n = n'
      · subst h2
        go_enter Try.func23, Try.ntmps23
        go_wp2_with fail
        rw [HW.out]
        refine NS.out.mono ?_
        rintro e w1 ⟨rfl, b1⟩
        go_wp2
        go_ret
        exact ⟨by rw [hR.out]; first | rfl | simp, below_on hb0 b1⟩
      · have d1 : decide (c = c ∧ n = n') = false := decide_eq_false (fun h => h2 h.2)
        rw [d1] at hR
        have e2 : (n == n') = false := beq_eq_false_iff_ne.2 h2
        clear d1
        go_enter Try.func23, Try.ntmps23
        go_wp2_with fail
        rw [HW.out]
        go_wp2
        go_ret
        exact ⟨by rw [hR.out]; first | rfl | simp, hb0⟩
    · have d1 : decide (c = c' ∧ n = n') = false := decide_eq_false (fun h => h1 h.1)
      rw [d1] at hR
      have e1 : (c == c') = false := beq_eq_false_iff_ne.2 h1
      clear d1
      go_enter Try.func23, Try.ntmps23
      go_wp2_with fail
      rw [HW.out]
      go_wp2
      go_ret
      exact ⟨by rw [hR.out]; first | rfl | simp, hb0⟩
  · have d0 : decide (o = o') = false := decide_eq_false h0
    rw [d0] at hR
    have e0 : (o == o') = false := beq_eq_false_iff_ne.2 h0
    clear d0
    go_enter Try.func23, Try.ntmps23
    go_wp2_with fail
    rw [HW.out]
    go_wp2
    go_ret
    exact ⟨by rw [hR.out]; first | rfl | simp, hb0⟩

end Go.Proofs.Ytmccednfaemiaaa
