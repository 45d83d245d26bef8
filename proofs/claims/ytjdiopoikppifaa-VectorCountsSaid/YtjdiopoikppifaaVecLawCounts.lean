/-
  VectorCounts walked from vector's contracts.
-/
import Derived.Test.YtjdiopoikppifaaVecLawWiths
namespace Go.Proofs.Ytjdiopoikppifaa
open Go.RowKit

set_option maxRecDepth 100000 in
set_option maxHeartbeats 3200000 in
theorem lawCounts_any (S : VecSpec) (A : Option Addr) (c : Nat) (l : List (Int × Int)) (nd k n : Int) (w : World) (hl : l.length * 16 ≤ 140737488355328) (h1 : OneL w A c l) :
    Calls Try.prog 3 #[.slice A l.length c, .int .i64 nd, .agg #[.int .i64 k, .int .i64 n]] w (Says (.bool true) w) := by
  have hb0 := below_new (Below.refl w.heap.size w) (.cells #[.int .i64 k, .int .i64 n] 24)
  have hB := Blk.new w 24 #[.int .i64 k, .int .i64 n]
  have h1' := h1.later hb0
  obtain ⟨W, hW⟩ : ∃ W, w.alloc (.cells #[.int .i64 k, .int .i64 n] 24) = W := ⟨_, rfl⟩
  rw [hW] at hb0 hB h1'
  have n0 := alive_any S
  have n1 := fun wx (hx : OneL wx A c l) => rcopy_any A c l wx hl hx.2.2.1 hx.2.2.2
  have HW := Lib.hid hW
  have HL := Lib.hid h1'
  have c0 := hB.cell (i := 0) rfl
  have c1 := hB.cell (i := 1) rfl
  have N0 := Lib.hid n0
  have N1 := Lib.hid n1
  clear n0 n1 h1 h1' hW hB
  go_enter Try.func3, Try.ntmps3
  go_wp2_with fail
  rw [HW.out]
  clear HW
  refine (N0.out _).mono ?_
  rintro e w1 ⟨rfl, b1⟩
  have hb1 := below_on hb0 b1
  have d0 := cell_later b1 c0
  have d1 := cell_later b1 c1
  have L1 := Lib.hid (HL.out.later b1)
  clear HL N0 c0 c1 hb0 b1
  go_wp2_with fail
  refine (N1.out _ L1.out).mono ?_
  rintro e w2 hg
  obtain ⟨B, d, rfl, ho, b2⟩ := hg.ans
  have hb2 := below_on hb1 b2
  have e0 := cell_later b2 d0
  have e1 := cell_later b2 d1
  have l2 := L1.out.later b2
  clear hg L1 N1 d0 d1 hb1 b2
  have k0 : ∀ d os, (Sort.grow (redrawn w2 d) os).cell? ⟨w.heap.size, 0, none⟩ = some (.int .i64 k) := cell_regrown e0
  have k1 : ∀ d os, (Sort.grow (redrawn w2 d) os).cell? ⟨w.heap.size, 1, none⟩ = some (.int .i64 n) := cell_regrown e1
  have q1 : ∀ r os, Calls Try.prog 11 #[.slice B l.length d, .int .i64 nd] (Sort.grow (redrawn w2 r) os) fun e w'' => e = .returned (.int .i64 (countOf l nd)) ∧ ∃ p : Regrown, w'' = Sort.grow (redrawn w2 p.d) p.os := fun r os => Calls.regrown_of (S.count B d l nd _ (ho.later (below_regrown w2 r os)))
  have q2 : ∀ r os, Calls Try.prog 12 #[.slice A l.length c, .int .i64 nd] (Sort.grow (redrawn w2 r) os) fun e w'' => e = .returned (.int .i64 (countOf l nd)) ∧ ∃ p : Regrown, w'' = Sort.grow (redrawn w2 p.d) p.os := fun r os => Calls.regrown_of (rcount_any A c l nd _ l2.len (l2.later (below_regrown w2 r os)).stamps)
  have q3 : ∀ r os, Calls Try.prog 13 #[.slice B l.length d, .agg #[.int .i64 k, .int .i64 n]] (Sort.grow (redrawn w2 r) os) fun e w'' => e = .returned (.bool (hasOf l k n)) ∧ ∃ p : Regrown, w'' = Sort.grow (redrawn w2 p.d) p.os := fun r os => Calls.regrown_of (S.has B d l k n _ (ho.later (below_regrown w2 r os)))
  have q4 : ∀ r os, Calls Try.prog 14 #[.slice A l.length c, .agg #[.int .i64 k, .int .i64 n]] (Sort.grow (redrawn w2 r) os) fun e w'' => e = .returned (.bool (hasOf l k n)) ∧ ∃ p : Regrown, w'' = Sort.grow (redrawn w2 p.d) p.os := fun r os => Calls.regrown_of (rhas_any A c l k n _ l2.len (l2.later (below_regrown w2 r os)).stamps)
  have q5 : ∀ r os, Calls Try.prog 15 #[.slice B l.length d] (Sort.grow (redrawn w2 r) os) fun e w'' => e = .returned (.bool (Ve.fmd l)) ∧ ∃ p : Regrown, w'' = Sort.grow (redrawn w2 p.d) p.os := fun r os => Calls.regrown_of (S.formed B d l _ (ho.later (below_regrown w2 r os)))
  have q6 : ∀ r os, Calls Try.prog 16 #[.slice A l.length c] (Sort.grow (redrawn w2 r) os) fun e w'' => e = .returned (.bool (Ve.fmd l)) ∧ ∃ p : Regrown, w'' = Sort.grow (redrawn w2 p.d) p.os := fun r os => Calls.regrown_of (rformed_any A c l _ l2.len (l2.later (below_regrown w2 r os)).stamps)
  have q7 : ∀ r os, Calls Try.prog 17 #[.slice B l.length d] (Sort.grow (redrawn w2 r) os) fun e w'' => e = .returned (.int .i64 (Ve.top (Ve.cnt l))) ∧ ∃ p : Regrown, w'' = Sort.grow (redrawn w2 p.d) p.os := fun r os => Calls.regrown_of (S.greatest B d l _ (ho.later (below_regrown w2 r os)))
  have q8 : ∀ r os, Calls Try.prog 18 #[.slice A l.length c] (Sort.grow (redrawn w2 r) os) fun e w'' => e = .returned (.int .i64 (Ve.top (Ve.cnt l))) ∧ ∃ p : Regrown, w'' = Sort.grow (redrawn w2 p.d) p.os := fun r os => Calls.regrown_of (rgreatest_any A c l _ l2.len (l2.later (below_regrown w2 r os)).stamps)
  have q9 : ∀ r os, Calls Try.prog 19 #[.slice B l.length d, .slice A l.length c] (Sort.grow (redrawn w2 r) os) fun e w'' => e = .returned (.bool true) ∧ ∃ p : Regrown, w'' = Sort.grow (redrawn w2 p.d) p.os := fun r os => Calls.regrown_of (same_self (ho.later (below_regrown w2 r os)) (l2.later (below_regrown w2 r os)))
  obtain ⟨x1, hx1⟩ : ∃ x, countOf l nd = x := ⟨_, rfl⟩
  obtain ⟨x2, hx2⟩ : ∃ x, hasOf l k n = x := ⟨_, rfl⟩
  obtain ⟨x3, hx3⟩ : ∃ x, Ve.fmd l = x := ⟨_, rfl⟩
  obtain ⟨x4, hx4⟩ : ∃ x, Ve.top (Ve.cnt l) = x := ⟨_, rfl⟩
  rw [hx1] at q1 q2
  rw [hx2] at q3 q4
  rw [hx3] at q5 q6
  rw [hx4] at q7 q8
  have Q1 := Lib.hid q1
  have Q2 := Lib.hid q2
  have Q3 := Lib.hid q3
  have Q4 := Lib.hid q4
  have Q5 := Lib.hid q5
  have Q6 := Lib.hid q6
  have Q7 := Lib.hid q7
  have Q8 := Lib.hid q8
  have Q9 := Lib.hid q9
  have HO := Lib.hid ho
  have HL2 := Lib.hid l2
  clear q1 q2 q3 q4 q5 q6 q7 q8 q9 hx1 hx2 hx3 hx4 ho l2 e0 e1
  go_wp2_with fail
  refine wp_region_quiet_below (by kernel_rfl) (by kernel_rfl) ?_
  repeat (first | go_big_quiet_step (first | exact Q1.out _ _ | exact Q2.out _ _ | exact Q3.out _ _ | exact Q4.out _ _ | exact Q5.out _ _ | exact Q6.out _ _ | exact Q7.out _ _ | exact Q8.out _ _ | exact Q9.out _ _) | quiet_step (first | exact Q1.out _ _ | exact Q2.out _ _ | exact Q3.out _ _ | exact Q4.out _ _ | exact Q5.out _ _ | exact Q6.out _ _ | exact Q7.out _ _ | exact Q8.out _ _ | exact Q9.out _ _))
  refine wpQuiet_nil ?_
  intro _ hw'
  obtain ⟨⟨dq, osq⟩, hw''⟩ := hw'
  subst hw''
  go_wp2
  go_ret
  exact ⟨rfl, below_on hb2 (below_regrown w2 dq osq)⟩

end Go.Proofs.Ytjdiopoikppifaa
