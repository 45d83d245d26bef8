/-
  What the functions of package stamp (Compare, Right, Next), those of telltaleref01, and cmp.Compare at int answer, for all arguments; each leaves the memory that was there as it was.
-/
import Derived.Test.YtebnmbckkelkpaaProg
import Derived.Test.YtebnmbckkelkpaaStampPlain
import Derived.Tactics
import Derived.Tactics2
import Derived.WalkKit
import Derived.WalkSpells
import Derived.OwnWalk
import Derived.Deep.QuietTactic
import Derived.BigQuiet
import Derived.Deep.RegionHeld3
import Derived.KernelRfl
import Derived.Lib.Hide
namespace Go.Proofs.Ytebnmbckkelkpaa
open Go.RowKit

theorem isNaN_any (a : Int) (w : World) : Calls Try.prog 17 #[.int .i64 a] w fun e w' => e = .returned (.bool false) ∧ w = w' := by
  go_enter Try.func17, Try.ntmps17
  go_wp2
  go_ret
  simp

theorem cmp_any (a b : Int) (w : World) : Calls Try.prog 15 #[.int .i64 a, .int .i64 b] w fun e w' => e = .returned (.int .i64 (St.cmpI a b)) ∧ w = w' := by
  rcases Int.lt_trichotomy a b with h | h | h
  · go_enter Try.func15, Try.ntmps15
    go_wp2_with (go_at_call 17; refine (isNaN_any _ _).mono ?_; rintro e w' ⟨rfl, rfl⟩)
    go_ret
    rw [St.cmpI_lt h]; exact ⟨rfl, rfl⟩
  · subst h
    go_enter Try.func15, Try.ntmps15
    go_wp2_with (go_at_call 17; refine (isNaN_any _ _).mono ?_; rintro e w' ⟨rfl, rfl⟩)
    go_ret
    rw [St.cmpI_eq rfl]; exact ⟨rfl, rfl⟩
  · have h2 : ¬ a < b := by omega
    go_enter Try.func15, Try.ntmps15
    go_wp2_with (go_at_call 17; refine (isNaN_any _ _).mono ?_; rintro e w' ⟨rfl, rfl⟩)
    go_ret
    rw [St.cmpI_gt h]; exact ⟨rfl, rfl⟩

theorem rightNode_any (n : Int) (w : World) : Calls Try.prog 16 #[.int .i64 n] w fun e w' => e = .returned (.bool (St.rgtN n)) ∧ w = w' := by
  by_cases h0 : 0 ≤ n
  · by_cases h1 : n < 64
    · go_enter Try.func16, Try.ntmps16
      go_wp2
      go_ret
      rw [show St.rgtN n = true from decide_eq_true (by omega)]; exact ⟨rfl, rfl⟩
    · go_enter Try.func16, Try.ntmps16
      go_wp2
      go_ret
      rw [show St.rgtN n = false from decide_eq_false (by omega)]; exact ⟨rfl, rfl⟩
  · go_enter Try.func16, Try.ntmps16
    go_wp2
    go_ret
    rw [show St.rgtN n = false from decide_eq_false (by omega)]; exact ⟨rfl, rfl⟩

/-- stamp.Compare. -/
theorem compare_any (c n c' n' : Int) (w : World) :
    Calls Try.prog 7 #[.agg #[.int .i64 c, .int .i64 n], .agg #[.int .i64 c', .int .i64 n']] w fun e w' => e = .returned (.int .i64 (St.cmpS c n c' n')) ∧ Below w.heap.size w w' := by
  rcases Int.lt_trichotomy c c' with h | h | h
  · have h1 : (St.cmpI c c' != 0) = true := by rw [St.cmpI_lt h]; rfl
    go_enter Try.func7, Try.ntmps7
    go_wp2_with (go_at_call 15; refine (cmp_any _ _ _).mono ?_; rintro e w' ⟨rfl, rfl⟩)
    go_ret
    rw [St.cmpI_lt h, St.cmpS_lt h]
    exact ⟨rfl, by repeat (first | exact Below.refl _ _ | exact Nat.le_refl _ | (apply Below.drew) | (refine Below.alloc ?_ ?_ _) | (refine Below.setCell ?_ ?_ _) | (simp; done) | (simp; omega))⟩
  · subst h
    have h1 : (St.cmpI c c != 0) = false := by rw [St.cmpI_eq rfl]; rfl
    go_enter Try.func7, Try.ntmps7
    go_wp2_with (go_at_call 15; refine (cmp_any _ _ _).mono ?_; rintro e w' ⟨rfl, rfl⟩)
    go_ret
    rw [St.cmpS_eq rfl]
    exact ⟨rfl, by repeat (first | exact Below.refl _ _ | exact Nat.le_refl _ | (apply Below.drew) | (refine Below.alloc ?_ ?_ _) | (refine Below.setCell ?_ ?_ _) | (simp; done) | (simp; omega))⟩
  · have h1 : (St.cmpI c c' != 0) = true := by rw [St.cmpI_gt h]; rfl
    go_enter Try.func7, Try.ntmps7
    go_wp2_with (go_at_call 15; refine (cmp_any _ _ _).mono ?_; rintro e w' ⟨rfl, rfl⟩)
    go_ret
    rw [St.cmpI_gt h, St.cmpS_gt h]
    exact ⟨rfl, by repeat (first | exact Below.refl _ _ | exact Nat.le_refl _ | (apply Below.drew) | (refine Below.alloc ?_ ?_ _) | (refine Below.setCell ?_ ?_ _) | (simp; done) | (simp; omega))⟩

/-- stamp.Right. -/
theorem right_any (c n : Int) (w : World) :
    Calls Try.prog 9 #[.agg #[.int .i64 c, .int .i64 n]] w fun e w' => e = .returned (.bool (St.rgt c n)) ∧ Below w.heap.size w w' := by
  by_cases h : 1 ≤ c
  · have h1 : decide (1 ≤ c) = true := decide_eq_true h
    have h2 : St.rgt c n = St.rgtN n := by unfold St.rgt St.rgtN; simp [h]
    have H2 := Lib.hid h2; clear h2
    go_enter Try.func9, Try.ntmps9
    go_wp2_with (go_at_call 16; refine (rightNode_any _ _).mono ?_; rintro e w' ⟨rfl, rfl⟩)
    go_ret
    rw [H2.out]
    exact ⟨rfl, by repeat (first | exact Below.refl _ _ | exact Nat.le_refl _ | (apply Below.drew) | (refine Below.alloc ?_ ?_ _) | (refine Below.setCell ?_ ?_ _) | (simp; done) | (simp; omega))⟩
  · have h1 : decide (1 ≤ c) = false := decide_eq_false h
    have h2 : St.rgt c n = false := by unfold St.rgt; simp [h]
    have H2 := Lib.hid h2; clear h2
    go_enter Try.func9, Try.ntmps9
    go_wp2_with (go_at_call 16; refine (rightNode_any _ _).mono ?_; rintro e w' ⟨rfl, rfl⟩)
    go_ret
    rw [H2.out]
    exact ⟨rfl, by repeat (first | exact Below.refl _ _ | exact Nat.le_refl _ | (apply Below.drew) | (refine Below.alloc ?_ ?_ _) | (refine Below.setCell ?_ ?_ _) | (simp; done) | (simp; omega))⟩

theorem rcompare_lt (c n c' n' : Int) (w : World) (h : c < c') :
    Calls Try.prog 8 #[.agg #[.int .i64 c, .int .i64 n], .agg #[.int .i64 c', .int .i64 n']] w fun e w' => e = .returned (.int .i64 (St.cmpS c n c' n')) ∧ Below w.heap.size w w' := by
  have h0 : St.cmpS c n c' n' = -1 := by (first | rw [St.cmpS_lt (by omega)] | rw [St.cmpS_gt (by omega)] | (rw [St.cmpS_eq (by omega)]; first | exact St.cmpI_lt (by omega) | exact St.cmpI_eq (by omega) | exact St.cmpI_gt (by omega)))
  have H0 := Lib.hid h0; clear h0
  have hd : decide (c < c') = true := decide_eq_true h
  go_enter Try.func8, Try.ntmps8
  go_wp2
  go_ret
  rw [H0.out]
  exact ⟨rfl, by repeat (first | exact Below.refl _ _ | exact Nat.le_refl _ | (apply Below.drew) | (refine Below.alloc ?_ ?_ _) | (refine Below.setCell ?_ ?_ _) | (simp; done) | (simp; omega))⟩

theorem rcompare_gt (c n c' n' : Int) (w : World) (h : c' < c) :
    Calls Try.prog 8 #[.agg #[.int .i64 c, .int .i64 n], .agg #[.int .i64 c', .int .i64 n']] w fun e w' => e = .returned (.int .i64 (St.cmpS c n c' n')) ∧ Below w.heap.size w w' := by
  have h0 : St.cmpS c n c' n' = 1 := by (first | rw [St.cmpS_lt (by omega)] | rw [St.cmpS_gt (by omega)] | (rw [St.cmpS_eq (by omega)]; first | exact St.cmpI_lt (by omega) | exact St.cmpI_eq (by omega) | exact St.cmpI_gt (by omega)))
  have H0 := Lib.hid h0; clear h0
  have hd : decide (c < c') = false := decide_eq_false (by omega)
  have hd2 : (c == c') = false := beq_eq_false_iff_ne.2 (by omega)
  go_enter Try.func8, Try.ntmps8
  go_wp2
  go_ret
  rw [H0.out]
  exact ⟨rfl, by repeat (first | exact Below.refl _ _ | exact Nat.le_refl _ | (apply Below.drew) | (refine Below.alloc ?_ ?_ _) | (refine Below.setCell ?_ ?_ _) | (simp; done) | (simp; omega))⟩

theorem rcompare_nlt (c n c' n' : Int) (w : World) (h : c = c') (hn : n < n') :
    Calls Try.prog 8 #[.agg #[.int .i64 c, .int .i64 n], .agg #[.int .i64 c', .int .i64 n']] w fun e w' => e = .returned (.int .i64 (St.cmpS c n c' n')) ∧ Below w.heap.size w w' := by
  have h0 : St.cmpS c n c' n' = -1 := by (first | rw [St.cmpS_lt (by omega)] | rw [St.cmpS_gt (by omega)] | (rw [St.cmpS_eq (by omega)]; first | exact St.cmpI_lt (by omega) | exact St.cmpI_eq (by omega) | exact St.cmpI_gt (by omega)))
  have H0 := Lib.hid h0; clear h0
  have hd : decide (c < c') = false := decide_eq_false (by omega)
  have hd2 : (c == c') = true := beq_iff_eq.2 h
  have hd3 : decide (n < n') = true := decide_eq_true hn
  clear h
  go_enter Try.func8, Try.ntmps8
  go_wp2
  go_ret
  rw [H0.out]
  exact ⟨rfl, by repeat (first | exact Below.refl _ _ | exact Nat.le_refl _ | (apply Below.drew) | (refine Below.alloc ?_ ?_ _) | (refine Below.setCell ?_ ?_ _) | (simp; done) | (simp; omega))⟩

theorem rcompare_ngt (c n c' n' : Int) (w : World) (h : c = c') (hn : n' < n) :
    Calls Try.prog 8 #[.agg #[.int .i64 c, .int .i64 n], .agg #[.int .i64 c', .int .i64 n']] w fun e w' => e = .returned (.int .i64 (St.cmpS c n c' n')) ∧ Below w.heap.size w w' := by
  have h0 : St.cmpS c n c' n' = 1 := by (first | rw [St.cmpS_lt (by omega)] | rw [St.cmpS_gt (by omega)] | (rw [St.cmpS_eq (by omega)]; first | exact St.cmpI_lt (by omega) | exact St.cmpI_eq (by omega) | exact St.cmpI_gt (by omega)))
  have H0 := Lib.hid h0; clear h0
  have hd : decide (c < c') = false := decide_eq_false (by omega)
  have hd2 : (c == c') = true := beq_iff_eq.2 h
  have hd3 : decide (n < n') = false := decide_eq_false (by omega)
  have hd4 : (n == n') = false := beq_eq_false_iff_ne.2 (by omega)
  clear h
  go_enter Try.func8, Try.ntmps8
  go_wp2
  go_ret
  rw [H0.out]
  exact ⟨rfl, by repeat (first | exact Below.refl _ _ | exact Nat.le_refl _ | (apply Below.drew) | (refine Below.alloc ?_ ?_ _) | (refine Below.setCell ?_ ?_ _) | (simp; done) | (simp; omega))⟩

theorem rcompare_eq (c n c' n' : Int) (w : World) (h : c = c') (hn : n = n') :
    Calls Try.prog 8 #[.agg #[.int .i64 c, .int .i64 n], .agg #[.int .i64 c', .int .i64 n']] w fun e w' => e = .returned (.int .i64 (St.cmpS c n c' n')) ∧ Below w.heap.size w w' := by
  have h0 : St.cmpS c n c' n' = 0 := by (first | rw [St.cmpS_lt (by omega)] | rw [St.cmpS_gt (by omega)] | (rw [St.cmpS_eq (by omega)]; first | exact St.cmpI_lt (by omega) | exact St.cmpI_eq (by omega) | exact St.cmpI_gt (by omega)))
  have H0 := Lib.hid h0; clear h0
  have hd : decide (c < c') = false := decide_eq_false (by omega)
  have hd2 : (c == c') = true := beq_iff_eq.2 h
  have hd3 : decide (n < n') = false := decide_eq_false (by omega)
  have hd4 : (n == n') = true := beq_iff_eq.2 hn
  clear h hn
  go_enter Try.func8, Try.ntmps8
  go_wp2
  go_ret
  rw [H0.out]
  exact ⟨rfl, by repeat (first | exact Below.refl _ _ | exact Nat.le_refl _ | (apply Below.drew) | (refine Below.alloc ?_ ?_ _) | (refine Below.setCell ?_ ?_ _) | (simp; done) | (simp; omega))⟩

/-- telltaleref01's Compare. -/
theorem rcompare_any (c n c' n' : Int) (w : World) :
    Calls Try.prog 8 #[.agg #[.int .i64 c, .int .i64 n], .agg #[.int .i64 c', .int .i64 n']] w fun e w' => e = .returned (.int .i64 (St.cmpS c n c' n')) ∧ Below w.heap.size w w' := by
  rcases Int.lt_trichotomy c c' with h | h | h
  · exact rcompare_lt c n c' n' w h
  · rcases Int.lt_trichotomy n n' with hn | hn | hn
    · exact rcompare_nlt c n c' n' w h hn
    · exact rcompare_eq c n c' n' w h hn
    · exact rcompare_ngt c n c' n' w h hn
  · exact rcompare_gt c n c' n' w h

theorem rright_c (c n : Int) (w : World) (h : c < 1) :
    Calls Try.prog 10 #[.agg #[.int .i64 c, .int .i64 n]] w fun e w' => e = .returned (.bool (St.rgt c n)) ∧ Below w.heap.size w w' := by
  have h0 : St.rgt c n = false := by unfold St.rgt; simp; omega
  have H0 := Lib.hid h0; clear h0
  have hd0 : decide (1 ≤ c) = false := decide_eq_false (by omega)
  go_enter Try.func10, Try.ntmps10
  go_wp2
  go_ret
  rw [H0.out]
  exact ⟨rfl, by repeat (first | exact Below.refl _ _ | exact Nat.le_refl _ | (apply Below.drew) | (refine Below.alloc ?_ ?_ _) | (refine Below.setCell ?_ ?_ _) | (simp; done) | (simp; omega))⟩

theorem rright_n (c n : Int) (w : World) (h : 1 ≤ c) (hn : n < 0) :
    Calls Try.prog 10 #[.agg #[.int .i64 c, .int .i64 n]] w fun e w' => e = .returned (.bool (St.rgt c n)) ∧ Below w.heap.size w w' := by
  have h0 : St.rgt c n = false := by unfold St.rgt; simp; omega
  have H0 := Lib.hid h0; clear h0
  have hd0 : decide (1 ≤ c) = true := decide_eq_true (by omega)
  have hd1 : decide (0 ≤ n) = false := decide_eq_false (by omega)
  go_enter Try.func10, Try.ntmps10
  go_wp2
  go_ret
  rw [H0.out]
  exact ⟨rfl, by repeat (first | exact Below.refl _ _ | exact Nat.le_refl _ | (apply Below.drew) | (refine Below.alloc ?_ ?_ _) | (refine Below.setCell ?_ ?_ _) | (simp; done) | (simp; omega))⟩

theorem rright_m (c n : Int) (w : World) (h : 1 ≤ c) (hn : 63 < n) :
    Calls Try.prog 10 #[.agg #[.int .i64 c, .int .i64 n]] w fun e w' => e = .returned (.bool (St.rgt c n)) ∧ Below w.heap.size w w' := by
  have h0 : St.rgt c n = false := by unfold St.rgt; simp; omega
  have H0 := Lib.hid h0; clear h0
  have hd0 : decide (1 ≤ c) = true := decide_eq_true (by omega)
  have hd1 : decide (0 ≤ n) = true := decide_eq_true (by omega)
  have hd2 : decide (n ≤ 63) = false := decide_eq_false (by omega)
  go_enter Try.func10, Try.ntmps10
  go_wp2
  go_ret
  rw [H0.out]
  exact ⟨rfl, by repeat (first | exact Below.refl _ _ | exact Nat.le_refl _ | (apply Below.drew) | (refine Below.alloc ?_ ?_ _) | (refine Below.setCell ?_ ?_ _) | (simp; done) | (simp; omega))⟩

theorem rright_y (c n : Int) (w : World) (h : 1 ≤ c) (hn : 0 ≤ n) (hm : n ≤ 63) :
    Calls Try.prog 10 #[.agg #[.int .i64 c, .int .i64 n]] w fun e w' => e = .returned (.bool (St.rgt c n)) ∧ Below w.heap.size w w' := by
  have h0 : St.rgt c n = true := by unfold St.rgt; simp; omega
  have H0 := Lib.hid h0; clear h0
  have hd0 : decide (1 ≤ c) = true := decide_eq_true (by omega)
  have hd1 : decide (0 ≤ n) = true := decide_eq_true (by omega)
  have hd2 : decide (n ≤ 63) = true := decide_eq_true (by omega)
  go_enter Try.func10, Try.ntmps10
  go_wp2
  go_ret
  rw [H0.out]
  exact ⟨rfl, by repeat (first | exact Below.refl _ _ | exact Nat.le_refl _ | (apply Below.drew) | (refine Below.alloc ?_ ?_ _) | (refine Below.setCell ?_ ?_ _) | (simp; done) | (simp; omega))⟩

/-- telltaleref01's Right. -/
theorem rright_any (c n : Int) (w : World) :
    Calls Try.prog 10 #[.agg #[.int .i64 c, .int .i64 n]] w fun e w' => e = .returned (.bool (St.rgt c n)) ∧ Below w.heap.size w w' := by
  by_cases h : c < 1
  · exact rright_c c n w h
  by_cases h1 : n < 0
  · exact rright_n c n w (by omega) h1
  by_cases h2 : 63 < n
  · exact rright_m c n w (by omega) h2
  · exact rright_y c n w (by omega) (by omega) (by omega)

end Go.Proofs.Ytebnmbckkelkpaa
