/-
  What stamp.Next and telltaleref01's Next answer: the same, for all counts, nodes and skips that an int can hold.
-/
import Derived.Test.YtebnmbckkelkpaaStampCalls
import Derived.Laws.ResultCell
namespace Go.Proofs.Ytebnmbckkelkpaa
open Go.RowKit

def NextPost (c n k : Int) (w : World) (e : Ending) (w' : World) : Prop :=
  e = .returned (.tuple #[.agg #[.int .i64 (St.nextC c n k), .int .i64 (St.nextN c n k)], .int .i64 (St.nextE c n k)]) ∧ Below w.heap.size w w'

theorem NextPost.mk' {c n k : Int} {w w' : World} {c' n' e' : Int} (h : St.nextC c n k = c' ∧ St.nextN c n k = n' ∧ St.nextE c n k = e') (hg : Below w.heap.size w w') :
    NextPost c n k w (.returned (.tuple #[.agg #[.int .i64 c', .int .i64 n'], .int .i64 e'])) w' := by
  obtain ⟨rfl, rfl, rfl⟩ := h
  exact ⟨rfl, hg⟩

theorem next_neg (c n k : Int) (w : World) (h : c < 0) : Calls Try.prog 11 #[.int .i64 c, .int .i64 n, .int .i64 k] w (NextPost c n k w) := by
  have h0 := St.next_bad (c := c) (n := n) (k := k) (by intro hh; omega)
  have H0 := Lib.hid h0; clear h0
  have hd : decide (c < 0) = true := decide_eq_true h
  go_enter Try.func11, Try.ntmps11
  go_wp2
  exact bodyPost_ret (v := .tuple #[.agg #[.int .i64 0, .int .i64 0], .int .i64 1]) (by simp [results, Try.results11, go_sem]) rfl (NextPost.mk' H0.out (by repeat (first | exact Below.refl _ _ | exact Nat.le_refl _ | (apply Below.drew) | (refine Below.alloc ?_ ?_ _) | (refine Below.setCell ?_ ?_ _) | (simp; done) | (simp; omega))))

theorem next_node (c n k : Int) (w : World) (h : 0 ≤ c) (hn : St.rgtN n = false) : Calls Try.prog 11 #[.int .i64 c, .int .i64 n, .int .i64 k] w (NextPost c n k w) := by
  have h0 := St.next_bad (c := c) (n := n) (k := k) (by intro hh; rw [hn] at hh; exact absurd hh.1 (by decide))
  have H0 := Lib.hid h0; clear h0
  have hd : decide (c < 0) = false := decide_eq_false (by omega)
  go_enter Try.func11, Try.ntmps11
  go_wp2_with (go_at_call 16; refine (rightNode_any _ _).mono ?_; rintro e w' ⟨rfl, rfl⟩)
  exact bodyPost_ret (v := .tuple #[.agg #[.int .i64 0, .int .i64 0], .int .i64 1]) (by simp [results, Try.results11, go_sem]) rfl (NextPost.mk' H0.out (by repeat (first | exact Below.refl _ _ | exact Nat.le_refl _ | (apply Below.drew) | (refine Below.alloc ?_ ?_ _) | (refine Below.setCell ?_ ?_ _) | (simp; done) | (simp; omega))))

theorem next_skip (c n k : Int) (w : World) (h : 0 ≤ c) (hn : St.rgtN n = true) (hk : k < 0) : Calls Try.prog 11 #[.int .i64 c, .int .i64 n, .int .i64 k] w (NextPost c n k w) := by
  have h0 := St.next_bad (c := c) (n := n) (k := k) (by intro hh; omega)
  have H0 := Lib.hid h0; clear h0
  have hd : decide (c < 0) = false := decide_eq_false (by omega)
  have hd2 : decide (k < 0) = true := decide_eq_true hk
  go_enter Try.func11, Try.ntmps11
  go_wp2_with (go_at_call 16; refine (rightNode_any _ _).mono ?_; rintro e w' ⟨rfl, rfl⟩)
  exact bodyPost_ret (v := .tuple #[.agg #[.int .i64 0, .int .i64 0], .int .i64 1]) (by simp [results, Try.results11, go_sem]) rfl (NextPost.mk' H0.out (by repeat (first | exact Below.refl _ _ | exact Nat.le_refl _ | (apply Below.drew) | (refine Below.alloc ?_ ?_ _) | (refine Below.setCell ?_ ?_ _) | (simp; done) | (simp; omega))))

theorem next_over (c n k : Int) (w : World) (h : 0 ≤ c) (hn : St.rgtN n = true) (hk : 0 ≤ k) (hc : c ≤ 9223372036854775807) (ho : ¬ c + k ≤ 9223372036854775806) : Calls Try.prog 11 #[.int .i64 c, .int .i64 n, .int .i64 k] w (NextPost c n k w) := by
  have h0 := St.next_over (c := c) (n := n) (k := k) hn h hk ho
  have H0 := Lib.hid h0; clear h0
  have hd : decide (c < 0) = false := decide_eq_false (by omega)
  have hd2 : decide (k < 0) = false := decide_eq_false (by omega)
  go_enter Try.func11, Try.ntmps11
  go_wp2_with (go_at_call 16; refine (rightNode_any _ _).mono ?_; rintro e w' ⟨rfl, rfl⟩)
  exact bodyPost_ret (v := .tuple #[.agg #[.int .i64 0, .int .i64 0], .int .i64 2]) (by simp [results, Try.results11, go_sem]) rfl (NextPost.mk' H0.out (by repeat (first | exact Below.refl _ _ | exact Nat.le_refl _ | (apply Below.drew) | (refine Below.alloc ?_ ?_ _) | (refine Below.setCell ?_ ?_ _) | (simp; done) | (simp; omega))))

theorem next_ok (c n k : Int) (w : World) (h : 0 ≤ c) (hn : St.rgtN n = true) (hk : 0 ≤ k) (ho : c + k ≤ 9223372036854775806) : Calls Try.prog 11 #[.int .i64 c, .int .i64 n, .int .i64 k] w (NextPost c n k w) := by
  have h0 := St.next_ok (c := c) (n := n) (k := k) hn h hk ho
  have H0 := Lib.hid h0; clear h0
  have hd : decide (c < 0) = false := decide_eq_false (by omega)
  have hd2 : decide (k < 0) = false := decide_eq_false (by omega)
  go_enter Try.func11, Try.ntmps11
  go_wp2_with (go_at_call 16; refine (rightNode_any _ _).mono ?_; rintro e w' ⟨rfl, rfl⟩)
  exact bodyPost_ret (v := .tuple #[.agg #[.int .i64 (c + 1 + k), .int .i64 n], .int .i64 0]) (by simp [results, Try.results11, go_sem]) rfl (NextPost.mk' H0.out (by repeat (first | exact Below.refl _ _ | exact Nat.le_refl _ | (apply Below.drew) | (refine Below.alloc ?_ ?_ _) | (refine Below.setCell ?_ ?_ _) | (simp; done) | (simp; omega))))

/-- stamp.Next, for all that an int can hold. -/
theorem next_any (c n k : Int) (w : World) (hc : c ≤ 9223372036854775807) : Calls Try.prog 11 #[.int .i64 c, .int .i64 n, .int .i64 k] w (NextPost c n k w) := by
  by_cases h : c < 0
  · exact next_neg c n k w h
  cases hn : St.rgtN n
  · exact next_node c n k w (by omega) hn
  by_cases hk : k < 0
  · exact next_skip c n k w (by omega) hn hk
  by_cases ho : c + k ≤ 9223372036854775806
  · exact next_ok c n k w (by omega) hn (by omega) ho
  · exact next_over c n k w (by omega) hn (by omega) hc ho

theorem rgtN_iff (n : Int) : St.rgtN n = true ↔ 0 ≤ n ∧ n ≤ 63 := by unfold St.rgtN; exact decide_eq_true_iff

theorem rnext_neg (c n k : Int) (w : World) (h : c < 0) : Calls Try.prog 12 #[.int .i64 c, .int .i64 n, .int .i64 k] w (NextPost c n k w) := by
  have h0 := St.next_bad (c := c) (n := n) (k := k) (by intro hh; omega)
  have H0 := Lib.hid h0; clear h0
  have hd : decide (c < 0) = true := decide_eq_true h
  go_enter Try.func12, Try.ntmps12
  go_wp2
  exact bodyPost_ret (v := .tuple #[.agg #[.int .i64 0, .int .i64 0], .int .i64 1]) (by simp [results, Try.results12, go_sem]) rfl (NextPost.mk' H0.out (by repeat (first | exact Below.refl _ _ | exact Nat.le_refl _ | (apply Below.drew) | (refine Below.alloc ?_ ?_ _) | (refine Below.setCell ?_ ?_ _) | (simp; done) | (simp; omega))))

theorem rnext_node (c n k : Int) (w : World) (h : 0 ≤ c) (hn : n < 0) : Calls Try.prog 12 #[.int .i64 c, .int .i64 n, .int .i64 k] w (NextPost c n k w) := by
  have h0 := St.next_bad (c := c) (n := n) (k := k) (by rw [rgtN_iff]; omega)
  have H0 := Lib.hid h0; clear h0
  have hd : decide (c < 0) = false := decide_eq_false (by omega)
  have hd2 : decide (n < 0) = true := decide_eq_true hn
  go_enter Try.func12, Try.ntmps12
  go_wp2
  exact bodyPost_ret (v := .tuple #[.agg #[.int .i64 0, .int .i64 0], .int .i64 1]) (by simp [results, Try.results12, go_sem]) rfl (NextPost.mk' H0.out (by repeat (first | exact Below.refl _ _ | exact Nat.le_refl _ | (apply Below.drew) | (refine Below.alloc ?_ ?_ _) | (refine Below.setCell ?_ ?_ _) | (simp; done) | (simp; omega))))

theorem rnext_node2 (c n k : Int) (w : World) (h : 0 ≤ c) (hn : 63 < n) : Calls Try.prog 12 #[.int .i64 c, .int .i64 n, .int .i64 k] w (NextPost c n k w) := by
  have h0 := St.next_bad (c := c) (n := n) (k := k) (by rw [rgtN_iff]; omega)
  have H0 := Lib.hid h0; clear h0
  have hd : decide (c < 0) = false := decide_eq_false (by omega)
  have hd2 : decide (n < 0) = false := decide_eq_false (by omega)
  have hd3 : decide (63 < n) = true := decide_eq_true hn
  go_enter Try.func12, Try.ntmps12
  go_wp2
  exact bodyPost_ret (v := .tuple #[.agg #[.int .i64 0, .int .i64 0], .int .i64 1]) (by simp [results, Try.results12, go_sem]) rfl (NextPost.mk' H0.out (by repeat (first | exact Below.refl _ _ | exact Nat.le_refl _ | (apply Below.drew) | (refine Below.alloc ?_ ?_ _) | (refine Below.setCell ?_ ?_ _) | (simp; done) | (simp; omega))))

theorem rnext_skip (c n k : Int) (w : World) (h : 0 ≤ c) (h0n : 0 ≤ n) (hn : n ≤ 63) (hk : k < 0) : Calls Try.prog 12 #[.int .i64 c, .int .i64 n, .int .i64 k] w (NextPost c n k w) := by
  have h0 := St.next_bad (c := c) (n := n) (k := k) (by intro hh; omega)
  have H0 := Lib.hid h0; clear h0
  have hd : decide (c < 0) = false := decide_eq_false (by omega)
  have hd2 : decide (n < 0) = false := decide_eq_false (by omega)
  have hd3 : decide (63 < n) = false := decide_eq_false (by omega)
  have hd4 : decide (k < 0) = true := decide_eq_true hk
  go_enter Try.func12, Try.ntmps12
  go_wp2
  exact bodyPost_ret (v := .tuple #[.agg #[.int .i64 0, .int .i64 0], .int .i64 1]) (by simp [results, Try.results12, go_sem]) rfl (NextPost.mk' H0.out (by repeat (first | exact Below.refl _ _ | exact Nat.le_refl _ | (apply Below.drew) | (refine Below.alloc ?_ ?_ _) | (refine Below.setCell ?_ ?_ _) | (simp; done) | (simp; omega))))

theorem rnext_max (c n k : Int) (w : World) (h : c = 9223372036854775807) (h0n : 0 ≤ n) (hn : n ≤ 63) (hk : 0 ≤ k) : Calls Try.prog 12 #[.int .i64 c, .int .i64 n, .int .i64 k] w (NextPost c n k w) := by
  have h0 := St.next_over (c := c) (n := n) (k := k) ((rgtN_iff n).2 ⟨h0n, hn⟩) (by omega) hk (by omega)
  have H0 := Lib.hid h0; clear h0
  have hd : decide (c < 0) = false := decide_eq_false (by omega)
  have hd2 : decide (n < 0) = false := decide_eq_false (by omega)
  have hd3 : decide (63 < n) = false := decide_eq_false (by omega)
  have hd4 : decide (k < 0) = false := decide_eq_false (by omega)
  have hd5 : (c == 9223372036854775807) = true := beq_iff_eq.2 h
  clear h
  go_enter Try.func12, Try.ntmps12
  go_wp2
  exact bodyPost_ret (v := .tuple #[.agg #[.int .i64 0, .int .i64 0], .int .i64 2]) (by simp [results, Try.results12, go_sem]) rfl (NextPost.mk' H0.out (by repeat (first | exact Below.refl _ _ | exact Nat.le_refl _ | (apply Below.drew) | (refine Below.alloc ?_ ?_ _) | (refine Below.setCell ?_ ?_ _) | (simp; done) | (simp; omega))))

theorem rnext_over (c n k : Int) (w : World) (h : 0 ≤ c) (hc : c < 9223372036854775807) (h0n : 0 ≤ n) (hn : n ≤ 63) (hk : 0 ≤ k) (ho : ¬ c + k ≤ 9223372036854775806) : Calls Try.prog 12 #[.int .i64 c, .int .i64 n, .int .i64 k] w (NextPost c n k w) := by
  have h0 := St.next_over (c := c) (n := n) (k := k) ((rgtN_iff n).2 ⟨h0n, hn⟩) h hk ho
  have H0 := Lib.hid h0; clear h0
  have hd : decide (c < 0) = false := decide_eq_false (by omega)
  have hd2 : decide (n < 0) = false := decide_eq_false (by omega)
  have hd3 : decide (63 < n) = false := decide_eq_false (by omega)
  have hd4 : decide (k < 0) = false := decide_eq_false (by omega)
  have hd5 : (c == 9223372036854775807) = false := beq_eq_false_iff_ne.2 (by omega)
  go_enter Try.func12, Try.ntmps12
  go_wp2
  exact bodyPost_ret (v := .tuple #[.agg #[.int .i64 0, .int .i64 0], .int .i64 2]) (by simp [results, Try.results12, go_sem]) rfl (NextPost.mk' H0.out (by repeat (first | exact Below.refl _ _ | exact Nat.le_refl _ | (apply Below.drew) | (refine Below.alloc ?_ ?_ _) | (refine Below.setCell ?_ ?_ _) | (simp; done) | (simp; omega))))

theorem rnext_ok (c n k : Int) (w : World) (h : 0 ≤ c) (h0n : 0 ≤ n) (hn : n ≤ 63) (hk : 0 ≤ k) (ho : c + k ≤ 9223372036854775806) : Calls Try.prog 12 #[.int .i64 c, .int .i64 n, .int .i64 k] w (NextPost c n k w) := by
  have h0 := St.next_ok (c := c) (n := n) (k := k) ((rgtN_iff n).2 ⟨h0n, hn⟩) h hk ho
  have H0 := Lib.hid h0; clear h0
  have hd : decide (c < 0) = false := decide_eq_false (by omega)
  have hd2 : decide (n < 0) = false := decide_eq_false (by omega)
  have hd3 : decide (63 < n) = false := decide_eq_false (by omega)
  have hd4 : decide (k < 0) = false := decide_eq_false (by omega)
  have hd5 : (c == 9223372036854775807) = false := beq_eq_false_iff_ne.2 (by omega)
  go_enter Try.func12, Try.ntmps12
  go_wp2
  exact bodyPost_ret (v := .tuple #[.agg #[.int .i64 (c + 1 + k), .int .i64 n], .int .i64 0]) (by simp [results, Try.results12, go_sem]) rfl (NextPost.mk' H0.out (by repeat (first | exact Below.refl _ _ | exact Nat.le_refl _ | (apply Below.drew) | (refine Below.alloc ?_ ?_ _) | (refine Below.setCell ?_ ?_ _) | (simp; done) | (simp; omega))))

/-- telltaleref01's Next. -/
theorem rnext_any (c n k : Int) (w : World) (hc : c ≤ 9223372036854775807) : Calls Try.prog 12 #[.int .i64 c, .int .i64 n, .int .i64 k] w (NextPost c n k w) := by
  by_cases h : c < 0
  · exact rnext_neg c n k w h
  by_cases h1 : n < 0
  · exact rnext_node c n k w (by omega) h1
  by_cases h2 : 63 < n
  · exact rnext_node2 c n k w (by omega) h2
  by_cases hk : k < 0
  · exact rnext_skip c n k w (by omega) (by omega) (by omega) hk
  by_cases hm : c = 9223372036854775807
  · exact rnext_max c n k w hm (by omega) (by omega) (by omega)
  by_cases ho : c + k ≤ 9223372036854775806
  · exact rnext_ok c n k w (by omega) (by omega) (by omega) (by omega) ho
  · exact rnext_over c n k w (by omega) (by omega) (by omega) (by omega) (by omega) ho

end Go.Proofs.Ytebnmbckkelkpaa
