/-
  Plain mathematics of stamps: how two of them stand, whether one is right. Nothing of the program is imported.
-/
import Derived.Below
namespace Go.Proofs.Ytebnmbckkelkpaa
namespace St

/-- How two whole numbers stand: -1, 0 or 1. -/
def cmpI (a b : Int) : Int := if a < b then -1 else if b < a then 1 else 0
/-- How two stamps stand: by the count, then by the node. -/
def cmpS (c n c' n' : Int) : Int := if c < c' then -1 else if c' < c then 1 else cmpI n n'
/-- A node's number. -/
def rgtN (n : Int) : Bool := decide (0 ≤ n ∧ n ≤ 63)
/-- A right stamp. -/
def rgt (c n : Int) : Bool := decide (1 ≤ c ∧ 0 ≤ n ∧ n ≤ 63)

theorem cmpI_lt {a b : Int} (h : a < b) : cmpI a b = -1 := by unfold cmpI; rw [if_pos h]
theorem cmpI_gt {a b : Int} (h : b < a) : cmpI a b = 1 := by unfold cmpI; rw [if_neg (by omega), if_pos h]
theorem cmpI_eq {a b : Int} (h : a = b) : cmpI a b = 0 := by unfold cmpI; rw [if_neg (by omega), if_neg (by omega)]
theorem cmpI_zero {a b : Int} : cmpI a b = 0 ↔ a = b := by unfold cmpI; split <;> (try split) <;> omega
theorem cmpI_bd (a b : Int) : -1 ≤ cmpI a b ∧ cmpI a b ≤ 1 := by unfold cmpI; split <;> (try split) <;> omega
theorem cmpS_lt {c n c' n' : Int} (h : c < c') : cmpS c n c' n' = -1 := by unfold cmpS; rw [if_pos h]
theorem cmpS_gt {c n c' n' : Int} (h : c' < c) : cmpS c n c' n' = 1 := by unfold cmpS; rw [if_neg (by omega), if_pos h]
theorem cmpS_eq {c n c' n' : Int} (h : c = c') : cmpS c n c' n' = cmpI n n' := by unfold cmpS; rw [if_neg (by omega), if_neg (by omega)]
theorem cmpS_bd (c n c' n' : Int) : -1 ≤ cmpS c n c' n' ∧ cmpS c n c' n' ≤ 1 := by
  have := cmpI_bd n n'
  unfold cmpS; split <;> (try split) <;> omega
theorem cmpS_zero {c n c' n' : Int} : cmpS c n c' n' = 0 ↔ c = c' ∧ n = n' := by
  have := @cmpI_zero n n'
  unfold cmpS; split <;> (try split) <;> omega
theorem cmpS_neg (c n c' n' : Int) : cmpS c' n' c n = -(cmpS c n c' n') := by
  unfold cmpS cmpI; (repeat' split) <;> omega
theorem cmpS_trans {c n c' n' c'' n'' : Int} (h : cmpS c n c' n' ≤ 0) (h' : cmpS c' n' c'' n'' ≤ 0) : cmpS c n c'' n'' ≤ 0 := by
  unfold cmpS cmpI at *; (repeat' split) <;> (repeat' (split at h)) <;> (repeat' (split at h')) <;> omega

/-- The next stamp's count, node, and the error: of a count, a node and a skip. -/
def nextC (c n k : Int) : Int := if rgtN n = true ∧ 0 ≤ c ∧ 0 ≤ k ∧ c + k ≤ 9223372036854775806 then c + 1 + k else 0
def nextN (c n k : Int) : Int := if rgtN n = true ∧ 0 ≤ c ∧ 0 ≤ k ∧ c + k ≤ 9223372036854775806 then n else 0
def nextE (c n k : Int) : Int := if rgtN n = true ∧ 0 ≤ c ∧ 0 ≤ k then (if c + k ≤ 9223372036854775806 then 0 else 2) else 1
theorem next_bad {c n k : Int} (h : ¬ (rgtN n = true ∧ 0 ≤ c ∧ 0 ≤ k)) : nextC c n k = 0 ∧ nextN c n k = 0 ∧ nextE c n k = 1 := by
  unfold nextC nextN nextE; rw [if_neg (by intro hh; exact h ⟨hh.1, hh.2.1, hh.2.2.1⟩), if_neg (by intro hh; exact h ⟨hh.1, hh.2.1, hh.2.2.1⟩), if_neg h]; exact ⟨rfl, rfl, rfl⟩
theorem next_over {c n k : Int} (h : rgtN n = true) (hc : 0 ≤ c) (hk : 0 ≤ k) (ho : ¬ c + k ≤ 9223372036854775806) : nextC c n k = 0 ∧ nextN c n k = 0 ∧ nextE c n k = 2 := by
  unfold nextC nextN nextE; rw [if_neg (by intro hh; exact ho hh.2.2.2), if_neg (by intro hh; exact ho hh.2.2.2), if_pos ⟨h, hc, hk⟩, if_neg ho]; exact ⟨rfl, rfl, rfl⟩
theorem next_ok {c n k : Int} (h : rgtN n = true) (hc : 0 ≤ c) (hk : 0 ≤ k) (ho : c + k ≤ 9223372036854775806) : nextC c n k = c + 1 + k ∧ nextN c n k = n ∧ nextE c n k = 0 := by
  unfold nextC nextN nextE; rw [if_pos ⟨h, hc, hk, ho⟩, if_pos ⟨h, hc, hk, ho⟩, if_pos ⟨h, hc, hk⟩, if_pos ho]; exact ⟨rfl, rfl, rfl⟩

end St
end Go.Proofs.Ytebnmbckkelkpaa
