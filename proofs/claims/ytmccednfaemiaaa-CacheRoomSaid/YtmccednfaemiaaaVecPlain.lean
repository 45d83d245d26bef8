/-
  Plain mathematics of version vectors: the counts of the nodes in a list of stamps, and arrays of 64 numbers. Nothing of the program is imported.
-/
import Derived.Test.YtmccednfaemiaaaSlices
namespace Go.Proofs.Ytmccednfaemiaaa
namespace Ve

/-- The count of a node in a list: that of its first right stamp of that node; 0 if there is none. -/
def cnt : List (Int × Int) → Nat → Int
  | [], _ => 0
  | s :: r, n => if St.rgt s.1 s.2 = true ∧ s.2 = (n : Int) then s.1 else cnt r n

/-- An array of 64 numbers, as cells. -/
def arr (f : Nat → Int) : Array Value := ((List.range 64).map fun i => Value.int .i64 (f i)).toArray
theorem arr_size (f : Nat → Int) : (arr f).size = 64 := by simp [arr]
theorem arr_get (f : Nat → Int) (i : Nat) (h : i < 64) : (arr f)[i]? = some (.int .i64 (f i)) := by simp [arr, h]
theorem arr_ext {f g : Nat → Int} (h : ∀ i, i < 64 → f i = g i) : arr f = arr g := by
  unfold arr
  congr 1
  apply List.map_congr_left
  intro i hi
  rw [h i (List.mem_range.1 hi)]
theorem arr_set (f : Nat → Int) (i : Nat) (x : Int) (_h : i < 64) : (arr f).setIfInBounds i (.int .i64 x) = arr (fun j => if j = i then x else f j) := by
  apply Array.ext_getElem?
  intro j
  by_cases hj : j < 64
  · rw [arr_get _ j hj, Array.getElem?_setIfInBounds]
    by_cases e : i = j
    · subst e
      rw [if_pos rfl, if_pos (by rw [arr_size]; exact hj), if_pos rfl]
    · rw [if_neg e, arr_get _ j hj, if_neg (fun h => e h.symm)]
  · rw [Array.getElem?_eq_none (by rw [Array.size_setIfInBounds, arr_size]; omega), Array.getElem?_eq_none (by rw [arr_size]; omega)]
theorem arr_zero : arr (fun _ => 0) = #[.int .i64 0, .int .i64 0, .int .i64 0, .int .i64 0, .int .i64 0, .int .i64 0, .int .i64 0, .int .i64 0, .int .i64 0, .int .i64 0, .int .i64 0, .int .i64 0, .int .i64 0, .int .i64 0, .int .i64 0, .int .i64 0,
    .int .i64 0, .int .i64 0, .int .i64 0, .int .i64 0, .int .i64 0, .int .i64 0, .int .i64 0, .int .i64 0, .int .i64 0, .int .i64 0, .int .i64 0, .int .i64 0, .int .i64 0, .int .i64 0, .int .i64 0, .int .i64 0,
    .int .i64 0, .int .i64 0, .int .i64 0, .int .i64 0, .int .i64 0, .int .i64 0, .int .i64 0, .int .i64 0, .int .i64 0, .int .i64 0, .int .i64 0, .int .i64 0, .int .i64 0, .int .i64 0, .int .i64 0, .int .i64 0,
    .int .i64 0, .int .i64 0, .int .i64 0, .int .i64 0, .int .i64 0, .int .i64 0, .int .i64 0, .int .i64 0, .int .i64 0, .int .i64 0, .int .i64 0, .int .i64 0, .int .i64 0, .int .i64 0, .int .i64 0, .int .i64 0] := by rfl
theorem cnt_drop (l : List (Int × Int)) (k : Nat) (h : k < l.length) (n : Nat) : cnt (l.drop k) n = if St.rgt l[k].1 l[k].2 = true ∧ l[k].2 = (n : Int) then l[k].1 else cnt (l.drop (k + 1)) n := by
  rw [List.drop_eq_getElem_cons h]
  rfl

/-- The vector of counts, up to node k. -/
def ofTo (f : Nat → Int) : Nat → List (Int × Int)
  | 0 => []
  | k + 1 => ofTo f k ++ (if 0 < f k then [(f k, (k : Int))] else [])
theorem ofTo_len (f : Nat → Int) : ∀ k, (ofTo f k).length ≤ k
  | 0 => Nat.le_refl _
  | k + 1 => by
    have := ofTo_len f k
    unfold ofTo
    split <;> simp <;> omega
def ofL (f : Nat → Int) : List (Int × Int) := ofTo f 64
theorem ofL_len (f : Nat → Int) : (ofL f).length ≤ 64 := ofTo_len f 64
theorem ofTo_ext {f g : Nat → Int} : ∀ k, (∀ i, i < k → f i = g i) → ofTo f k = ofTo g k
  | 0, _ => rfl
  | k + 1, h => by
    unfold ofTo
    rw [ofTo_ext k (fun i hi => h i (by omega)), h k (by omega)]
theorem ofL_ext {f g : Nat → Int} (h : ∀ i, i < 64 → f i = g i) : ofL f = ofL g := ofTo_ext 64 h

/-- Is no count of g greater, up to node k? -/
def covTo (f g : Nat → Int) (k : Nat) : Prop := ∀ n, n < k → g n ≤ f n
def cov (f g : Nat → Int) : Bool := decide (∀ n : Fin 64, g n ≤ f n)
theorem cov_iff (f g : Nat → Int) : cov f g = true ↔ covTo f g 64 := by
  unfold cov covTo
  rw [decide_eq_true_iff]
  exact ⟨fun h n hn => h ⟨n, hn⟩, fun h n => h n.val n.isLt⟩
theorem cov_no {f g : Nat → Int} (k : Nat) (hk : k < 64) (h : f k < g k) : cov f g = false := by
  cases hc : cov f g with
  | false => rfl
  | true => have := (cov_iff f g).1 hc k hk; omega
/-- How two stand. -/
def stand (f g : Nat → Int) : Int := if cov f g = true then (if cov g f = true then 0 else 2) else (if cov g f = true then 1 else 3)
theorem stand_eq (f g : Nat → Int) : stand f g = if cov f g = true then (if cov g f = true then 0 else 2) else (if cov g f = true then 1 else 3) := rfl
/-- The greatest count, up to node k. -/
def topTo (f : Nat → Int) : Nat → Int
  | 0 => 0
  | k + 1 => if topTo f k < f k then f k else topTo f k
def top (f : Nat → Int) : Int := topTo f 64
theorem cnt_nonneg (l : List (Int × Int)) (n : Nat) : 0 ≤ cnt l n := by
  induction l with
  | nil => exact Int.le_refl _
  | cons s r ih =>
    unfold cnt
    split
    · rename_i h
      have : 1 ≤ s.1 := by have := h.1; unfold St.rgt at this; exact (of_decide_eq_true this).1
      omega
    · exact ih
/-- Is it a vector? -/
def formed : List (Int × Int) → Bool
  | [] => true
  | [s] => St.rgt s.1 s.2
  | s :: t :: r => St.rgt s.1 s.2 && decide (s.2 < t.2) && formed (t :: r)

end Ve
end Go.Proofs.Ytmccednfaemiaaa
