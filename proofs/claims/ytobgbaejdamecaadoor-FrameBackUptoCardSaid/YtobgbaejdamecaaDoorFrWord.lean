/-
  A number of 32 bits as four bytes, the highest first, and back: frame's wordBytes and wordOf, telltaleref07's four and length.
-/
import Derived.Test.YtobgbaejdamecaaDoorFrShift
import Derived.Deep.QuietTactic
import Derived.BigQuiet
import Derived.WalkSmall
namespace Go.Proofs.YtobgbaejdamecaaDoor
open Go.RowKit

namespace Fr
/-- A number's four bytes. -/
def w4 (n : Nat) : List Int := [((n / 16777216 % 256 : Nat) : Int), ((n / 65536 % 256 : Nat) : Int), ((n / 256 % 256 : Nat) : Int), ((n % 256 : Nat) : Int)]
theorem w4_len (n : Nat) : (w4 n).length = 4 := rfl
theorem w4_byte (n : Nat) : ∀ x ∈ w4 n, isB x := by
  intro x hx
  unfold w4 at hx
  simp only [List.mem_cons, List.not_mem_nil, or_false] at hx
  unfold isB
  omega
/-- The number of four bytes. -/
def num4 (l : List Int) : Nat := (l.getD 0 0).toNat * 16777216 + (l.getD 1 0).toNat * 65536 + (l.getD 2 0).toNat * 256 + (l.getD 3 0).toNat
theorem num4_w4 (n : Nat) (h : n < 4294967296) (m : List Int) : num4 (w4 n ++ m) = n := by
  unfold num4 w4
  simp only [List.cons_append, List.getD_cons_zero, List.getD_cons_succ, Int.toNat_natCast]
  omega
end Fr

set_option maxHeartbeats 800000 in
theorem fword_any (n : Nat) (hn : n < 4294967296) (w : World) : Calls Tryd.prog 24 #[.int .u32 (n : Int)] w (GivesB (Fr.w4 n) w) := by
  go_enter Tryd.func24, Tryd.ntmps24
  go_wp2
  go_ret
  have e0 : (n : Int) / 16777216 = ((n / 16777216 % 256 : Nat) : Int) := by omega
  refine ⟨_, rfl, ⟨rfl, .inr ⟨w.heap.size, 4, _, rfl, Nat.le_refl _, heap_alloc_new w _, Nat.le_refl _, by unfold maxLen; omega, rfl, ?_⟩⟩, below_new (Below.refl _ _) _⟩
  rw [e0]
  rfl
theorem wraps_u32 (n : Int) (h₀ : 0 ≤ n) (h₁ : n < 2 ^ 32) : IntKind.u32.wrap n = n := by rw [IntKind.wrap_u32]; omega
theorem or32 (i : Nat) (x y : Int) (hx0 : 0 ≤ x) (hx1 : x < 4294967296) (hx : x % 2 ^ i = 0) (hy0 : 0 ≤ y) (hy : y < 2 ^ i ∧ y < 4294967296) : bits BinOp.or IntKind.u32 x y = x + y := bits_join .u32 32 (by decide) wraps_u32 i x y hx0 hx hx1 hy0 hy.1 hy.2
set_option maxHeartbeats 800000 in
theorem flen_any (A : Option Addr) (c : Nat) (l : List Int) (w : World) (h : OneB w A c l) (h4 : 4 ≤ l.length) : Calls Tryd.prog 32 #[.slice A l.length c] w (Says (.int .u32 ((Fr.num4 l : Nat) : Int)) w) := by
  obtain ⟨g, off, rfl, hc⟩ := h.at (by intro e; rw [e] at h4; simp at h4)
  have hb0 := h.byte _ (List.getElem_mem (l := l) (n := 0) (by omega))
  have hb1 := h.byte _ (List.getElem_mem (l := l) (n := 1) (by omega))
  have hb2 := h.byte _ (List.getElem_mem (l := l) (n := 2) (by omega))
  have hb3 := h.byte _ (List.getElem_mem (l := l) (n := 3) (by omega))
  have e0 : l.getD 0 0 = l[0] := by rw [List.getD_eq_getElem?_getD, List.getElem?_eq_getElem]; rfl
  have e1 : l.getD 1 0 = l[1] := by rw [List.getD_eq_getElem?_getD, List.getElem?_eq_getElem]; rfl
  have e2 : l.getD 2 0 = l[2] := by rw [List.getD_eq_getElem?_getD, List.getElem?_eq_getElem]; rfl
  have e3 : l.getD 3 0 = l[3] := by rw [List.getD_eq_getElem?_getD, List.getElem?_eq_getElem]; rfl
  have c0 := hc 0 (by omega)
  have c1 := hc 1 (by omega)
  have c2 := hc 2 (by omega)
  have c3 := hc 3 (by omega)
  unfold Fr.num4
  rw [e0] at c0 ⊢; rw [e1] at c1 ⊢; rw [e2] at c2 ⊢; rw [e3] at c3 ⊢
  generalize l[0] = x0 at *
  generalize l[1] = x1 at *
  generalize l[2] = x2 at *
  generalize l[3] = x3 at *
  have hcap := h.cap
  have hle := h.le
  unfold maxLen at hcap
  unfold isB at hb0 hb1 hb2 hb3
  rw [Nat.add_zero] at c0
  clear h hc e0 e1 e2 e3
  have i0 : (0 : Int) < (l.length : Int) := by omega
  have i1 : (1 : Int) < (l.length : Int) := by omega
  have i2 : (2 : Int) < (l.length : Int) := by omega
  have i3 : (3 : Int) < (l.length : Int) := by omega
  obtain ⟨k, hk⟩ : ∃ k, l.length = k := ⟨_, rfl⟩
  rw [hk] at hle h4 i0 i1 i2 i3 ⊢
  clear hk
  go_enter Tryd.func32, Tryd.ntmps32
  go_wp2_with fail
  go_quiet (fail)
  go_wp2
  go_ret
  refine ⟨?_, below_drewN (Below.refl _ _) _⟩
  have j1 : bits BinOp.or IntKind.u32 (x0 * 16777216) (x1 * 65536) = x0 * 16777216 + x1 * 65536 := or32 24 _ _ (by omega) (by omega) (by omega) (by omega) (by omega)
  have j2 : bits BinOp.or IntKind.u32 (x0 * 16777216 + x1 * 65536) (x2 * 256) = x0 * 16777216 + x1 * 65536 + x2 * 256 := or32 16 _ _ (by omega) (by omega) (by omega) (by omega) (by omega)
  have j3 : bits BinOp.or IntKind.u32 (x0 * 16777216 + x1 * 65536 + x2 * 256) x3 = x0 * 16777216 + x1 * 65536 + x2 * 256 + x3 := or32 8 _ _ (by omega) (by omega) (by omega) (by omega) (by omega)
  rw [show ((x0.toNat * 16777216 + x1.toNat * 65536 + x2.toNat * 256 + x3.toNat : Nat) : Int) = x0 * 16777216 + x1 * 65536 + x2 * 256 + x3 by omega, ← j3, ← j2, ← j1]
  rfl
end Go.Proofs.YtobgbaejdamecaaDoor
