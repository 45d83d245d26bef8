/-
  Plain mathematics of stamps: how two of them stand, whether one is right. Nothing of the program is imported.
-/
import Derived.Below
import Derived.Laws.OwnMore
import Derived.Deep.Draws
import Derived.Laws.Rows
namespace Go.Proofs.Ytmccednfaemiaaa
open Go.RowKit in
/-- A new block behind a world that is as it was below. -/
theorem below_new {W w : World} (h : Below W.heap.size W w) (o : Obj) : Below W.heap.size W (w.alloc o) := h.alloc h.size o
open Go.RowKit in
/-- A world that is as it was below, and then another one. -/
theorem below_on {W w w' : World} (h : Below W.heap.size W w) (h' : Below w.heap.size w w') : Below W.heap.size W w' := h.trans (h'.mono h.size)

open Go.RowKit in
/-- A whole block: its cells, none of them frozen. -/
def Blk (w : World) (g : Nat) (t : TypeId) (cs : Array Value) : Prop := w.heap[g]? = some (.cells cs t (0, 0))
open Go.RowKit in
section
variable {w w' : World} {g : Nat} {t : TypeId} {cs : Array Value}
theorem Blk.lt (h : Blk w g t cs) : g < w.heap.size := by
  rcases Nat.lt_or_ge g w.heap.size with hlt | hge
  · exact hlt
  · unfold Blk at h; rw [Array.getElem?_eq_none hge] at h; cases h
theorem Blk.cell (h : Blk w g t cs) {i : Nat} {v : Value} (hv : cs[i]? = some v) : w.cell? ⟨g, i, none⟩ = some v := (cell_of_row w g i cs t (0, 0) h).trans hv
theorem Blk.free (h : Blk w g t cs) (i : Nat) : w.frozen? ⟨g, i, none⟩ = false := by
  unfold Blk at h
  simp [World.frozen?, h]
theorem Blk.new (w : World) (t : TypeId) (cs : Array Value) : Blk (w.alloc (.cells cs t)) w.heap.size t cs := heap_alloc_new w _
theorem Blk.drew (h : Blk w g t cs) : Blk w.drew g t cs := h
theorem Blk.drewN (h : Blk w g t cs) (n : Nat) : Blk (w.drewN n) g t cs := h
theorem Blk.alloc (h : Blk w g t cs) (o : Obj) : Blk (w.alloc o) g t cs := (Below.heap_alloc w o g h.lt).trans h
theorem Blk.put (h : Blk w g t cs) (i : Nat) (u : Value) : Blk (w.setCell ⟨g, i, none⟩ u) g t (cs.setIfInBounds i u) := by
  unfold Blk at h ⊢
  simp [World.setCell, Array.getElem?_modify, h]
theorem Blk.far (h : Blk w g t cs) {p : Addr} (hp : g ≠ p.block) (u : Value) : Blk (w.setCell p u) g t cs := (Below.heap_setCell w p u g hp).trans h
theorem Blk.later (h : Blk w g t cs) (hb : Below w.heap.size w w') : Blk w' g t cs := (hb.block g h.lt).trans h
end

namespace St

/-- How two whole numbers stand: -1, 0 or 1. -/
def cmpI (a b : Int) : Int := if a < b then -1 else if b < a then 1 else 0
/-- How two stamps stand: by the count, then by the node. -/
def cmpS (c n c' n' : Int) : Int := if c < c' then -1 else if c' < c then 1 else cmpI n n'
/-- A node's number. -/
def rgtN (n : Int) : Bool := decide (0 ≤ n ∧ n ≤ 63)
/-- A right stamp. -/
def rgt (c n : Int) : Bool := decide (1 ≤ c ∧ 0 ≤ n ∧ n ≤ 63)

/-- The newer one of two stamps, the first where they are one. -/
def newer (m s : Int × Int) : Int × Int := if 0 < cmpS s.1 s.2 m.1 m.2 then s else m
/-- The newest of a list that begins with x. -/
def newestOf (x : Int × Int) (l : List (Int × Int)) : Int × Int := l.foldl newer x
theorem newest_snoc (x : Int × Int) (l : List (Int × Int)) (k : Nat) (h : k < l.length) : newestOf x (l.take (k + 1)) = newer (newestOf x (l.take k)) l[k] := by
  unfold newestOf
  rw [List.take_succ_eq_append_getElem h, List.foldl_append]
  rfl
theorem newest_all (x : Int × Int) (l : List (Int × Int)) (k : Nat) (h : l.length ≤ k) : newestOf x (l.take k) = newestOf x l := by
  rw [List.take_of_length_le h]

/-- The newest of any list: of none the zero stamp. -/
def nwS : List (Int × Int) → Int × Int
  | [] => (0, 0)
  | x :: r => newestOf x r
def nwB : List (Int × Int) → Bool
  | [] => false
  | _ :: _ => true
theorem cmpI_lt {a b : Int} (h : a < b) : cmpI a b = -1 := by unfold cmpI; rw [if_pos h]
theorem cmpI_gt {a b : Int} (h : b < a) : cmpI a b = 1 := by unfold cmpI; rw [if_neg (by omega), if_pos h]
theorem cmpI_eq {a b : Int} (h : a = b) : cmpI a b = 0 := by unfold cmpI; rw [if_neg (by omega), if_neg (by omega)]
theorem cmpI_zero {a b : Int} : cmpI a b = 0 ↔ a = b := by unfold cmpI; split <;> (try split) <;> omega
theorem cmpI_bd (a b : Int) : -1 ≤ cmpI a b ∧ cmpI a b ≤ 1 := by unfold cmpI; split <;> (try split) <;> omega
theorem cmpS_lt {c n c' n' : Int} (h : c < c') : cmpS c n c' n' = -1 := by unfold cmpS; rw [if_pos h]
theorem cmpS_gt {c n c' n' : Int} (h : c' < c) : cmpS c n c' n' = 1 := by unfold cmpS; rw [if_neg (by omega), if_pos h]
theorem cmpS_eq {c n c' n' : Int} (h : c = c') : cmpS c n c' n' = cmpI n n' := by unfold cmpS; rw [if_neg (by omega), if_neg (by omega)]
theorem cmpS_bd (c n c' n' : Int) : -1 ≤ cmpS c n c' n' ∧ cmpS c n c' n' ≤ 1 := by
  have := cmpI_bd n n'
  unfold cmpS; split <;> (try split) <;> omega
theorem cmpS_zero {c n c' n' : Int} : cmpS c n c' n' = 0 ↔ c = c' ∧ n = n' := by
  have := @cmpI_zero n n'
  unfold cmpS; split <;> (try split) <;> omega
theorem cmpS_neg (c n c' n' : Int) : cmpS c' n' c n = -(cmpS c n c' n') := by
  unfold cmpS cmpI; (repeat' split) <;> omega
theorem cmpS_trans {c n c' n' c'' n'' : Int} (h : cmpS c n c' n' ≤ 0) (h' : cmpS c' n' c'' n'' ≤ 0) : cmpS c n c'' n'' ≤ 0 := by
  unfold cmpS cmpI at *; (repeat' split) <;> (repeat' (split at h)) <;> (repeat' (split at h')) <;> omega

/-- The next stamp's count, node, and the error: of a count, a node and a skip. -/
def nextC (c n k : Int) : Int := if rgtN n = true ∧ 0 ≤ c ∧ 0 ≤ k ∧ c + k ≤ 9223372036854775806 then c + 1 + k else 0
def nextN (c n k : Int) : Int := if rgtN n = true ∧ 0 ≤ c ∧ 0 ≤ k ∧ c + k ≤ 9223372036854775806 then n else 0
def nextE (c n k : Int) : Int := if rgtN n = true ∧ 0 ≤ c ∧ 0 ≤ k then (if c + k ≤ 9223372036854775806 then 0 else 2) else 1
theorem next_bad {c n k : Int} (h : ¬ (rgtN n = true ∧ 0 ≤ c ∧ 0 ≤ k)) : nextC c n k = 0 ∧ nextN c n k = 0 ∧ nextE c n k = 1 := by
  unfold nextC nextN nextE; rw [if_neg (by intro hh; exact h ⟨hh.1, hh.2.1, hh.2.2.1⟩), if_neg (by intro hh; exact h ⟨hh.1, hh.2.1, hh.2.2.1⟩), if_neg h]; exact ⟨rfl, rfl, rfl⟩
theorem next_over {c n k : Int} (h : rgtN n = true) (hc : 0 ≤ c) (hk : 0 ≤ k) (ho : ¬ c + k ≤ 9223372036854775806) : nextC c n k = 0 ∧ nextN c n k = 0 ∧ nextE c n k = 2 := by
  unfold nextC nextN nextE; rw [if_neg (by intro hh; exact ho hh.2.2.2), if_neg (by intro hh; exact ho hh.2.2.2), if_pos ⟨h, hc, hk⟩, if_neg ho]; exact ⟨rfl, rfl, rfl⟩
theorem next_ok {c n k : Int} (h : rgtN n = true) (hc : 0 ≤ c) (hk : 0 ≤ k) (ho : c + k ≤ 9223372036854775806) : nextC c n k = c + 1 + k ∧ nextN c n k = n ∧ nextE c n k = 0 := by
  unfold nextC nextN nextE; rw [if_pos ⟨h, hc, hk, ho⟩, if_pos ⟨h, hc, hk, ho⟩, if_pos ⟨h, hc, hk⟩, if_pos ho]; exact ⟨rfl, rfl, rfl⟩

end St
end Go.Proofs.Ytmccednfaemiaaa
