/-
  Plain mathematics of counted ends: how many spans hold an object, by differences at the spans' ends. Nothing of the program is imported.
-/
import Derived.Test.YtnnmcnbpnfegpaaSpRefMore
namespace Go.Proofs.Ytnnmcnbpnfegpaa
namespace Sp

/-- Does a span hold an object? How many of a list, of the first k lists? -/
def cvS (s : Int × Int) (o : Nat) : Int := if s.1 ≤ (o : Int) ∧ (o : Int) ≤ s.2 then 1 else 0
def cvL : List (Int × Int) → Nat → Int
  | [], _ => 0
  | s :: r, o => cvS s o + cvL r o
theorem cvS_bd (s : Int × Int) (o : Nat) : 0 ≤ cvS s o ∧ cvS s o ≤ 1 := by unfold cvS; split <;> omega
theorem cvS_pos (s : Int × Int) (o : Nat) : 0 < cvS s o ↔ s.1 ≤ (o : Int) ∧ (o : Int) ≤ s.2 := by
  unfold cvS
  by_cases h : s.1 ≤ (o : Int) ∧ (o : Int) ≤ s.2
  · rw [if_pos h]; exact ⟨fun _ => h, fun _ => by omega⟩
  · rw [if_neg h]; exact ⟨fun h2 => by omega, fun h2 => absurd h2 h⟩
theorem cvL_snoc (s : Int × Int) (o : Nat) : ∀ l, cvL (l ++ [s]) o = cvL l o + cvS s o
  | [] => by show cvS s o + 0 = 0 + cvS s o; omega
  | t :: r => by
    have := cvL_snoc s o r
    show cvS t o + cvL (r ++ [s]) o = cvS t o + cvL r o + cvS s o
    omega
theorem cvL_take (l : List (Int × Int)) (k : Nat) (h : k < l.length) (o : Nat) : cvL (l.take (k + 1)) o = cvL (l.take k) o + cvS l[k] o := by
  rw [List.take_succ_eq_append_getElem h, cvL_snoc]
theorem cvL_bd (o : Nat) : ∀ l, 0 ≤ cvL l o ∧ cvL l o ≤ (l.length : Int)
  | [] => ⟨Int.le_refl _, Int.le_refl _⟩
  | s :: r => by
    have h1 := cvL_bd o r
    have h2 := cvS_bd s o
    have e : cvL (s :: r) o = cvS s o + cvL r o := rfl
    rw [e, List.length_cons]
    omega
theorem cvL_pos (o : Nat) : ∀ l, 0 < cvL l o ↔ inL l o = true
  | [] => ⟨fun h => absurd h (Int.lt_irrefl _), fun h => by cases h⟩
  | s :: r => by
    have h1 := cvL_pos o r
    have h2 := cvS_pos s o
    have h3 := (cvL_bd o r).1
    have h4 := (cvS_bd s o).1
    have e : cvL (s :: r) o = cvS s o + cvL r o := rfl
    rw [e, inL_cons, Bool.or_eq_true, decide_eq_true_eq, ← h1, ← h2]
    omega
def cvTo (ls : List (List (Int × Int))) : Nat → Nat → Int
  | 0, _ => 0
  | k + 1, o => cvTo ls k o + cvL (ls.getD k []) o
def totTo (ls : List (List (Int × Int))) : Nat → Nat
  | 0 => 0
  | k + 1 => totTo ls k + (ls.getD k []).length
theorem totTo_cons (l : List (Int × Int)) (ls : List (List (Int × Int))) : ∀ k, totTo (l :: ls) (k + 1) = l.length + totTo ls k
  | 0 => by show 0 + l.length = l.length + 0; omega
  | k + 1 => by
    have := totTo_cons l ls k
    show totTo (l :: ls) (k + 1) + (ls.getD k []).length = l.length + (totTo ls k + (ls.getD k []).length)
    omega
theorem totTo_all : ∀ ls, totTo ls ls.length = tot ls
  | [] => rfl
  | l :: r => by
    rw [List.length_cons, totTo_cons, totTo_all r]
    simp [tot]
theorem totTo_mono (ls : List (List (Int × Int))) (k : Nat) : ∀ m, k ≤ m → totTo ls k ≤ totTo ls m
  | 0, h => by rw [Nat.le_zero.1 h]; exact Nat.le_refl _
  | m + 1, h => by
    rcases Nat.lt_or_ge m k with h1 | h1
    · rw [show k = m + 1 from by omega]; exact Nat.le_refl _
    · have := totTo_mono ls k m h1
      show totTo ls k ≤ totTo ls m + _
      omega
theorem totTo_le (ls : List (List (Int × Int))) (k : Nat) (h : k < ls.length) : totTo ls k + (ls.getD k []).length ≤ tot ls := by
  have := totTo_mono ls (k + 1) ls.length h
  rw [totTo_all] at this
  exact this
theorem cvTo_bd (ls : List (List (Int × Int))) (o : Nat) : ∀ k, 0 ≤ cvTo ls k o ∧ cvTo ls k o ≤ (totTo ls k : Int)
  | 0 => ⟨Int.le_refl _, Int.le_refl _⟩
  | k + 1 => by
    have h1 := cvTo_bd ls o k
    have h2 := cvL_bd o (ls.getD k [])
    have e : cvTo ls (k + 1) o = cvTo ls k o + cvL (ls.getD k []) o := rfl
    have e2 : totTo ls (k + 1) = totTo ls k + (ls.getD k []).length := rfl
    rw [e, e2]
    omega
theorem cvTo_pos (ls : List (List (Int × Int))) (o : Nat) : ∀ k, 0 < cvTo ls k o ↔ anyTo ls k o = true
  | 0 => ⟨fun h => absurd h (Int.lt_irrefl _), fun h => by cases h⟩
  | k + 1 => by
    have h1 := cvTo_pos ls o k
    have h2 := cvL_pos o (ls.getD k [])
    have h3 := (cvTo_bd ls o k).1
    have h4 := (cvL_bd o (ls.getD k [])).1
    have e : cvTo ls (k + 1) o = cvTo ls k o + cvL (ls.getD k []) o := rfl
    have e2 : anyTo ls (k + 1) o = (anyTo ls k o || inL (ls.getD k []) o) := rfl
    rw [e, e2, Bool.or_eq_true, ← h1, ← h2]
    omega

/-- Sums of differences. -/
def sumTo (c : Nat → Int) : Nat → Int
  | 0 => 0
  | k + 1 => sumTo c k + c k
theorem sumTo_put (c : Nat → Int) (p : Nat) (v : Int) : ∀ k, sumTo (fun j => if j = p then v else c j) k = sumTo c k + (if p < k then v - c p else 0)
  | 0 => by
    rw [if_neg (by omega)]
    show (0 : Int) = 0 + 0
    omega
  | k + 1 => by
    have h := sumTo_put c p v k
    show sumTo (fun j => if j = p then v else c j) k + (if k = p then v else c k) = sumTo c k + c k + _
    rw [h]
    by_cases e : k = p
    · rw [if_neg (by omega), if_pos e, if_pos (by omega), e]
      omega
    · rw [if_neg e]
      by_cases e2 : p < k
      · rw [if_pos e2, if_pos (by omega)]
        omega
      · rw [if_neg e2, if_neg (by omega)]
        omega
theorem sumTo_zero : ∀ k, sumTo (fun _ => 0) k = 0
  | 0 => rfl
  | k + 1 => by
    have := sumTo_zero k
    show sumTo (fun _ => 0) k + 0 = 0
    omega
/-- The differences c count g, of n spans. -/
def Dif (n : Nat) (c g : Nat → Int) : Prop := (∀ o, o < 256 → sumTo c (o + 1) = g o) ∧ ∀ j, -(n : Int) ≤ c j ∧ c j ≤ (n : Int)
theorem Dif.zero : Dif 0 (fun _ => 0) (fun _ => 0) := ⟨fun _ _ => sumTo_zero _, fun _ => ⟨Int.le_refl _, Int.le_refl _⟩⟩
theorem Dif.same {n m : Nat} {c g g' : Nat → Int} (h : Dif n c g) (hm : n ≤ m) (hg : ∀ o, o < 256 → g o = g' o) : Dif m c g' := ⟨fun o ho => (h.1 o ho).trans (hg o ho), fun j => by have := h.2 j; omega⟩
theorem Dif.step {n : Nat} {c g g' : Nat → Int} (h : Dif n c g) (p q : Nat) (hpq : p ≤ q) (hg : ∀ o, o < 256 → g' o = g o + (if p ≤ o ∧ o ≤ q then 1 else 0)) :
    Dif (n + 1) (fun j => if j = q + 1 then c (q + 1) - 1 else (if j = p then c p + 1 else c j)) g' := by
  refine ⟨fun o ho => ?_, fun j => ?_⟩
  · rw [sumTo_put (fun j => if j = p then c p + 1 else c j) (q + 1) (c (q + 1) - 1), sumTo_put c p (c p + 1), h.1 o ho, hg o ho, if_neg (show ¬ (q + 1 = p) from by omega)]
    by_cases h1 : p ≤ o
    · rw [if_pos (show p < o + 1 from by omega)]
      by_cases h2 : o ≤ q
      · rw [if_neg (show ¬ (q + 1 < o + 1) from by omega), if_pos ⟨h1, h2⟩]
        omega
      · rw [if_pos (show q + 1 < o + 1 from by omega), if_neg (fun h => h2 h.2)]
        omega
    · rw [if_neg (show ¬ (p < o + 1) from by omega), if_neg (show ¬ (q + 1 < o + 1) from by omega), if_neg (fun h => h1 h.1)]
      omega
  · have h1 := h.2 j
    have h2 := h.2 p
    have h3 := h.2 (q + 1)
    show -((n + 1 : Nat) : Int) ≤ (if j = q + 1 then c (q + 1) - 1 else (if j = p then c p + 1 else c j)) ∧ (if j = q + 1 then c (q + 1) - 1 else (if j = p then c p + 1 else c j)) ≤ ((n + 1 : Nat) : Int)
    split
    · omega
    · split <;> omega
theorem over_any (ls : List (List (Int × Int))) (o : Nat) : decide (0 < cvTo ls ls.length o) = anyTo ls ls.length o := by
  rw [Bool.eq_iff_iff, decide_eq_true_eq]
  exact cvTo_pos ls o ls.length

end Sp
end Go.Proofs.Ytnnmcnbpnfegpaa
