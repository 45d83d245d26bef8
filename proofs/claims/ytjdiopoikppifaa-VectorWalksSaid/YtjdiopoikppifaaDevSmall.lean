/-
  What vector's Count, Has, Formed, Compare and With answer.
-/
import Derived.Test.YtjdiopoikppifaaDevJoin
namespace Go.Proofs.Ytjdiopoikppifaa
open Go.RowKit

set_option maxHeartbeats 800000 in
theorem count_any (A : Option Addr) (c1 : Nat) (l : List (Int × Int)) (n : Int) (w : World) (h1 : OneL w A c1 l) :
    Calls Try.prog 11 #[.slice A l.length c1, .int .i64 n] w (Says (.int .i64 (countOf l n)) w) := by
  by_cases h0 : n < 0
  · have hc : countOf l n = 0 := by unfold countOf; rw [if_neg (by omega)]
    have HC := Lib.hid hc
    clear hc
    have hd : decide (n < 0) = true := decide_eq_true h0
    go_enter Try.func11, Try.ntmps11
    go_wp2
    go_ret
    exact ⟨by rw [HC.out]; rfl, Below.refl _ _⟩
  · have hd : decide (n < 0) = false := decide_eq_false h0
    by_cases h2 : 64 ≤ n
    · have hc : countOf l n = 0 := by unfold countOf; rw [if_neg (by omega)]
      have HC := Lib.hid hc
      clear hc
      have hd2 : decide (64 ≤ n) = true := decide_eq_true h2
      go_enter Try.func11, Try.ntmps11
      go_wp2
      go_ret
      exact ⟨by rw [HC.out]; rfl, Below.refl _ _⟩
    · obtain ⟨k, rfl⟩ : ∃ k : Nat, n = (k : Int) := ⟨n.toNat, by omega⟩
      have hk : k < 64 := by omega
      have hc : countOf l (k : Int) = Ve.cnt l k := by unfold countOf; rw [if_pos (by omega)]; rfl
      have HC := Lib.hid hc
      have hd2 : decide (64 ≤ (k : Int)) = false := decide_eq_false h2
      have N1 := Lib.hid (countsOf_any A c1 l w h1.len h1.stamps)
      clear hc
      have hix := fun w => index_counts (Ve.cnt l) k hk w
      go_enter Try.func11, Try.ntmps11
      go_wp2_with fail
      refine N1.out.mono ?_
      rintro e w2 ⟨rfl, hb2⟩
      go_wp2
      go_ret
      exact ⟨by rw [HC.out]; rfl, hb2⟩

set_option maxHeartbeats 1600000 in
theorem has_any (A : Option Addr) (c1 : Nat) (l : List (Int × Int)) (c n : Int) (w : World) (h1 : OneL w A c1 l) :
    Calls Try.prog 13 #[.slice A l.length c1, .agg #[.int .i64 c, .int .i64 n]] w (Says (.bool (hasOf l c n)) w) := by
  have hb0 := below_new (Below.refl w.heap.size w) (.cells #[.int .i64 c, .int .i64 n] 24)
  have hB := Blk.new w 24 #[.int .i64 c, .int .i64 n]
  have h1' := h1.later hb0
  clear h1
  obtain ⟨W, hW⟩ : ∃ W, w.alloc (.cells #[.int .i64 c, .int .i64 n] 24) = W := ⟨_, rfl⟩
  rw [hW] at hb0 hB h1'
  have HW := Lib.hid hW
  clear hW
  have k0 : ∀ d os, (Sort.grow (redrawn W d) os).cell? ⟨w.heap.size, 0, none⟩ = some (.int .i64 c) := cell_regrown (hB.cell rfl)
  have k1 : ∀ d os, (Sort.grow (redrawn W d) os).cell? ⟨w.heap.size, 1, none⟩ = some (.int .i64 n) := cell_regrown (hB.cell rfl)
  clear hB
  cases hr : St.rgt c n
  all_goals
    have hh : hasOf l c n = (St.rgt c n && decide (c ≤ countOf l n)) := rfl
    rw [hr] at hh
    have HH := Lib.hid hh
    have cR : ∀ d os, Calls Try.prog 34 #[.agg #[.int .i64 c, .int .i64 n]] (Sort.grow (redrawn W d) os) fun e w'' => e = .returned (.bool (St.rgt c n)) ∧ ∃ p : Regrown, w'' = Sort.grow (redrawn W p.d) p.os := fun d os => Calls.regrown_of (right_any c n _)
    have cC : ∀ d os, Calls Try.prog 11 #[.slice A l.length c1, .int .i64 n] (Sort.grow (redrawn W d) os) fun e w'' => e = .returned (.int .i64 (countOf l n)) ∧ ∃ p : Regrown, w'' = Sort.grow (redrawn W p.d) p.os := fun d os => Calls.regrown_of (count_any A c1 l n _ (h1'.later (below_regrown W d os)))
    rw [hr] at cR
    have CR := Lib.hid cR
    have CC := Lib.hid cC
    clear hh hr cR cC
    go_enter Try.func13, Try.ntmps13
    go_wp2_with fail
    rw [HW.out]
    refine wp_region_quiet_below (by kernel_rfl) (by kernel_rfl) ?_
    repeat (first | go_big_quiet_step (first | exact CR.out _ _ | exact CC.out _ _) | quiet_step (first | exact CR.out _ _ | exact CC.out _ _))
    refine wpQuiet_nil ?_
    intro _ hw'
    obtain ⟨⟨dq, osq⟩, hw''⟩ := hw'
    subst hw''
    go_wp2
    go_ret
    exact ⟨by rw [HH.out]; rfl, below_on hb0 (below_regrown W dq osq)⟩

set_option maxHeartbeats 800000 in
theorem compare_any (A B : Option Addr) (c d : Nat) (l r : List (Int × Int)) (w : World) (h1 : OneL w A c l) (h2 : OneL w B d r) :
    Calls Try.prog 22 #[.slice A l.length c, .slice B r.length d] w (Says (.int .i64 (Ve.stand (Ve.cnt l) (Ve.cnt r))) w) := by
  have hs := Ve.stand_eq (Ve.cnt l) (Ve.cnt r)
  have n1 := covers_any A B c d l r w h1 h2
  have n2 := fun wx hx hy => covers_any B A d c r l wx hx hy
  obtain ⟨o, ho⟩ : ∃ o, Ve.cov (Ve.cnt l) (Ve.cnt r) = o := ⟨_, rfl⟩
  obtain ⟨u, hu⟩ : ∃ u, Ve.cov (Ve.cnt r) (Ve.cnt l) = u := ⟨_, rfl⟩
  rw [ho] at n1 hs
  rw [hu] at n2 hs
  have N1 := Lib.hid n1
  have N2 := Lib.hid n2
  have H1 := Lib.hid h1
  have H2 := Lib.hid h2
  have HS := Lib.hid hs
  clear n1 n2 h1 h2 hs ho hu
  cases o <;> cases u
  all_goals
    go_enter Try.func22, Try.ntmps22
    go_wp2_with fail
    refine N1.out.mono ?_
    rintro e w1 ⟨rfl, b1⟩
    have N3 := Lib.hid (N2.out w1 (H2.out.later b1) (H1.out.later b1))
    clear N1 N2
    go_wp2_with fail
    refine N3.out.mono ?_
    rintro e w2 ⟨rfl, b2⟩
    clear N3
    go_wp2
    go_ret
    exact ⟨by rw [HS.out]; rfl, below_on b1 b2⟩

set_option maxHeartbeats 1600000 in
theorem with_any (A : Option Addr) (c1 : Nat) (l : List (Int × Int)) (c n : Int) (w : World) (h1 : OneL w A c1 l) :
    Calls Try.prog 28 #[.slice A l.length c1, .agg #[.int .i64 c, .int .i64 n]] w (Gives (Ve.joinL [l, [(c, n)]]) w) := by
  have hb0 := below_new (below_new (below_new (Below.refl w.heap.size w) (.cells #[.int .i64 c, .int .i64 n] 24)) (.cells #[.int .i64 c, .int .i64 n] 24)) (.cells #[.slice A l.length c1, .slice (some ⟨w.heap.size + 1, 0, none⟩) 1 1] 22)
  have hB := (Blk.new (w.alloc (.cells #[.int .i64 c, .int .i64 n] 24)) 24 #[.int .i64 c, .int .i64 n]).alloc (.cells #[.slice A l.length c1, .slice (some ⟨w.heap.size + 1, 0, none⟩) 1 1] 22)
  rw [show (w.alloc (.cells #[.int .i64 c, .int .i64 n] 24)).heap.size = w.heap.size + 1 from by simp] at hB
  have hC := Blk.new ((w.alloc (.cells #[.int .i64 c, .int .i64 n] 24)).alloc (.cells #[.int .i64 c, .int .i64 n] 24)) 22 #[.slice A l.length c1, .slice (some ⟨w.heap.size + 1, 0, none⟩) 1 1]
  rw [show ((w.alloc (.cells #[.int .i64 c, .int .i64 n] 24)).alloc (.cells #[.int .i64 c, .int .i64 n] 24)).heap.size = w.heap.size + 2 from by simp] at hC
  have hR := rows_two (l := l) (r := [(c, n)]) hC (h1.later hb0) (one_stamp hB)
  have hj := join_any (some ⟨w.heap.size + 2, 0, none⟩) 2 [l, [(c, n)]] _ (by simp) hR
  have HJ := Lib.hid hj
  clear hj hR hB hC h1
  go_enter Try.func28, Try.ntmps28
  go_wp2_with fail
  refine HJ.out.mono ?_
  rintro e w1 ⟨v, rfl, ho, hb1⟩
  have HO := Lib.hid ho
  clear ho
  go_wp2
  go_ret
  exact ⟨_, rfl, own_base HO.out (by simp; omega), below_on hb0 hb1⟩

end Go.Proofs.Ytjdiopoikppifaa
