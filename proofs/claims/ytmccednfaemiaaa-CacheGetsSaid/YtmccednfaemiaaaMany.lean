/-
  A slice of slices of stamps in memory; the greatest and the least counts of many lists. Nothing of the program is imported.
-/
import Derived.Test.YtmccednfaemiaaaVecPlain
namespace Go.Proofs.Ytmccednfaemiaaa
open Go.RowKit

/-- A list of stamps by value: its length, its room, its cells. -/
def OneL (w : World) (A : Option Addr) (c : Nat) (l : List (Int × Int)) : Prop := l.length ≤ c ∧ c ≤ maxLen ∧ (A = none → l.length = 0 ∧ c = 0) ∧ Lies w A (stCells l)
section
variable {w w' : World} {A : Option Addr} {c : Nat} {l : List (Int × Int)}
theorem OneL.later (h : OneL w A c l) (hb : Below w.heap.size w w') : OneL w' A c l := ⟨h.1, h.2.1, h.2.2.1, h.2.2.2.later hb⟩
theorem OneL.len (h : OneL w A c l) : l.length ≤ 9223372036854775807 := by
  have h1 := h.1
  have h2 := h.2.1
  unfold maxLen at h2
  omega
theorem OneL.stamps (h : OneL w A c l) : Stamps w A l := Stamps.of_lies h.2.2.2
theorem OneL.nil : OneL w none 0 [] := ⟨Nat.le_refl _, Nat.zero_le _, fun _ => ⟨rfl, rfl⟩, Lies.nil⟩
theorem OneL.of_own {base : Nat} {e : TypeId} {v : Value} (h : w.ownsRow base e 2 v l.length (stCells l)) : ∃ A c, v = .slice A l.length c ∧ OneL w A c l := by
  obtain ⟨A, c, h1, h2, h3, h4, h5⟩ := own_form h
  exact ⟨A, c, h1, h2, h3, h4, h5⟩
end

/-- A slice of lists of stamps in memory. -/
def Rows (w : World) (A : Option Addr) (ls : List (List (Int × Int))) : Prop :=
  ls ≠ [] → ∃ b off, A = some ⟨b, off, none⟩ ∧ ∀ k, k < ls.length → ∃ A' c', w.cell? ⟨b, off + k, none⟩ = some (.slice A' (ls.getD k []).length c') ∧ OneL w A' c' (ls.getD k [])
theorem Rows.later {w w' : World} {A : Option Addr} {ls : List (List (Int × Int))} (h : Rows w A ls) (hb : Below w.heap.size w w') : Rows w' A ls := fun hne => by
  obtain ⟨b, off, hA, hc⟩ := h hne
  refine ⟨b, off, hA, fun k hk => ?_⟩
  obtain ⟨A', c', h1, h2⟩ := hc k hk
  exact ⟨A', c', (hb.cell (World.block_lt_of_cell? w _ h1)).trans h1, h2.later hb⟩
theorem Rows.nil {w : World} {A : Option Addr} : Rows w A [] := fun h => absurd rfl h
theorem Rows.len {w : World} {A : Option Addr} {ls : List (List (Int × Int))} (h : Rows w A ls) : ∀ k, k < ls.length → (ls.getD k []).length ≤ 9223372036854775807 := fun k hk => by
  obtain ⟨_, _, _, hc⟩ := h (fun e => by subst e; simp at hk)
  obtain ⟨_, _, _, h2⟩ := hc k hk
  exact h2.len

namespace Ve
/-- The greatest counts of the first k lists. -/
def jnTo (ls : List (List (Int × Int))) : Nat → Nat → Int
  | 0, _ => 0
  | k + 1, n => if jnTo ls k n < cnt (ls.getD k []) n then cnt (ls.getD k []) n else jnTo ls k n
def jn (ls : List (List (Int × Int))) : Nat → Int := jnTo ls ls.length
theorem jnTo_nonneg (ls : List (List (Int × Int))) : ∀ k n, 0 ≤ jnTo ls k n
  | 0, _ => Int.le_refl _
  | k + 1, n => by
    unfold jnTo
    split
    · exact cnt_nonneg _ _
    · exact jnTo_nonneg ls k n
/-- Half of a round: the greater ones, up to node n. -/
def mxTo (f g : Nat → Int) (n : Nat) : Nat → Int := fun j => if j < n then (if f j < g j then g j else f j) else f j
/-- The least counts of the first k + 1 lists. -/
def mtTo (ls : List (List (Int × Int))) : Nat → Nat → Int
  | 0, n => cnt (ls.getD 0 []) n
  | k + 1, n => if cnt (ls.getD (k + 1) []) n < mtTo ls k n then cnt (ls.getD (k + 1) []) n else mtTo ls k n
def mt (ls : List (List (Int × Int))) : Nat → Int := mtTo ls (ls.length - 1)
def mnTo (f g : Nat → Int) (n : Nat) : Nat → Int := fun j => if j < n then (if g j < f j then g j else f j) else f j
theorem mtTo_nonneg (ls : List (List (Int × Int))) : ∀ k n, 0 ≤ mtTo ls k n
  | 0, n => cnt_nonneg _ _
  | k + 1, n => by
    unfold mtTo
    split
    · exact cnt_nonneg _ _
    · exact mtTo_nonneg ls k n
theorem mx_step (f g : Nat → Int) (n : Nat) (x : Int) (h : x = if f n < g n then g n else f n) (i : Nat) : (if i = n then x else mxTo f g n i) = mxTo f g (n + 1) i := by
  unfold mxTo
  by_cases e : i = n
  · subst e
    rw [if_pos rfl, if_pos (Nat.lt_succ_self _), h]
  · rw [if_neg e]
    by_cases e2 : i < n
    · rw [if_pos e2, if_pos (show i < n + 1 by omega)]
    · rw [if_neg e2, if_neg (show ¬ i < n + 1 by omega)]
theorem mn_step (f g : Nat → Int) (n : Nat) (x : Int) (h : x = if g n < f n then g n else f n) (i : Nat) : (if i = n then x else mnTo f g n i) = mnTo f g (n + 1) i := by
  unfold mnTo
  by_cases e : i = n
  · subst e
    rw [if_pos rfl, if_pos (Nat.lt_succ_self _), h]
  · rw [if_neg e]
    by_cases e2 : i < n
    · rw [if_pos e2, if_pos (show i < n + 1 by omega)]
    · rw [if_neg e2, if_neg (show ¬ i < n + 1 by omega)]
/-- The meet of lists, as stamps: none of none. -/
def meetL (ls : List (List (Int × Int))) : List (Int × Int) := if ls = [] then [] else ofL (mt ls)
def joinL (ls : List (List (Int × Int))) : List (Int × Int) := ofL (jn ls)
end Ve
end Go.Proofs.Ytmccednfaemiaaa
