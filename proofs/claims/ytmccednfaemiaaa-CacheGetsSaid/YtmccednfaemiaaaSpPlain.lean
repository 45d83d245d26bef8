/-
  Plain mathematics of sets of objects: which objects are in a list of spans; arrays of 256 marks; the list of a set. Nothing of the program is imported.
-/
import Derived.Test.YtmccednfaemiaaaSlices
namespace Go.Proofs.Ytmccednfaemiaaa
namespace Sp

/-- Is an object in a list of spans? -/
def inL (l : List (Int × Int)) (o : Nat) : Bool := l.any fun s => decide (s.1 ≤ (o : Int) ∧ (o : Int) ≤ s.2)
theorem inL_iff (l : List (Int × Int)) (o : Nat) : inL l o = true ↔ ∃ s ∈ l, s.1 ≤ (o : Int) ∧ (o : Int) ≤ s.2 := by
  unfold inL
  rw [List.any_eq_true]
  constructor
  · rintro ⟨s, h1, h2⟩
    exact ⟨s, h1, of_decide_eq_true h2⟩
  · rintro ⟨s, h1, h2⟩
    exact ⟨s, h1, decide_eq_true h2⟩
theorem inL_snoc (l : List (Int × Int)) (s : Int × Int) (o : Nat) : inL (l ++ [s]) o = (inL l o || decide (s.1 ≤ (o : Int) ∧ (o : Int) ≤ s.2)) := by
  unfold inL
  rw [List.any_append]
  simp
theorem inL_take (l : List (Int × Int)) (k : Nat) (h : k < l.length) (o : Nat) : inL (l.take (k + 1)) o = (inL (l.take k) o || decide (l[k].1 ≤ (o : Int) ∧ (o : Int) ≤ l[k].2)) := by
  rw [List.take_succ_eq_append_getElem h, inL_snoc]

/-- An array of 256 marks, as cells. -/
def arr (f : Nat → Bool) : Array Value := ((List.range 256).map fun i => Value.bool (f i)).toArray
theorem arr_size (f : Nat → Bool) : (arr f).size = 256 := by simp [arr]
theorem arr_get (f : Nat → Bool) (i : Nat) (h : i < 256) : (arr f)[i]? = some (.bool (f i)) := by simp [arr, h]
theorem arr_ext {f g : Nat → Bool} (h : ∀ i, i < 256 → f i = g i) : arr f = arr g := by
  unfold arr
  congr 1
  apply List.map_congr_left
  intro i hi
  rw [h i (List.mem_range.1 hi)]
theorem arr_set (f : Nat → Bool) (i : Nat) (x : Bool) (_h : i < 256) : (arr f).setIfInBounds i (.bool x) = arr (fun j => if j = i then x else f j) := by
  apply Array.ext_getElem?
  intro j
  by_cases hj : j < 256
  · rw [arr_get _ j hj, Array.getElem?_setIfInBounds]
    by_cases e : i = j
    · subst e
      rw [if_pos rfl, if_pos (by rw [arr_size]; exact hj), if_pos rfl]
    · rw [if_neg e, arr_get _ j hj, if_neg (fun h => e h.symm)]
  · rw [Array.getElem?_eq_none (by rw [Array.size_setIfInBounds, arr_size]; omega), Array.getElem?_eq_none (by rw [arr_size]; omega)]

/-- An array of 257 numbers, as cells. -/
def nar (f : Nat → Int) : Array Value := ((List.range 257).map fun i => Value.int .i64 (f i)).toArray
theorem nar_size (f : Nat → Int) : (nar f).size = 257 := by simp [nar]
theorem nar_get (f : Nat → Int) (i : Nat) (h : i < 257) : (nar f)[i]? = some (.int .i64 (f i)) := by simp [nar, h]
theorem nar_ext {f g : Nat → Int} (h : ∀ i, i < 257 → f i = g i) : nar f = nar g := by
  unfold nar
  congr 1
  apply List.map_congr_left
  intro i hi
  rw [h i (List.mem_range.1 hi)]
theorem nar_set (f : Nat → Int) (i : Nat) (x : Int) : (nar f).setIfInBounds i (.int .i64 x) = nar (fun j => if j = i then x else f j) := by
  apply Array.ext_getElem?
  intro j
  by_cases hj : j < 257
  · rw [nar_get _ j hj, Array.getElem?_setIfInBounds]
    by_cases e : i = j
    · subst e
      rw [if_pos rfl, if_pos (by rw [nar_size]; exact hj), if_pos rfl]
    · rw [if_neg e, nar_get _ j hj, if_neg (fun h => e h.symm)]
  · rw [Array.getElem?_eq_none (by rw [Array.size_setIfInBounds, nar_size]; omega), Array.getElem?_eq_none (by rw [nar_size]; omega)]

/-- The last span reaches up to an object now. -/
def reach (l : List (Int × Int)) (x : Int) : List (Int × Int) := l.dropLast ++ [((l.getD (l.length - 1) (0, 0)).1, x)]
/-- The list of a set, up to object k. -/
def ofTo (f : Nat → Bool) : Nat → List (Int × Int)
  | 0 => []
  | k + 1 => if f k = true then (if 0 < k ∧ f (k - 1) = true then reach (ofTo f k) (k : Int) else ofTo f k ++ [((k : Int), (k : Int))]) else ofTo f k
def ofL (f : Nat → Bool) : List (Int × Int) := ofTo f 256
theorem ofTo_ext {f g : Nat → Bool} : ∀ k, (∀ i, i < k → f i = g i) → ofTo f k = ofTo g k
  | 0, _ => rfl
  | k + 1, h => by
    rw [ofTo, ofTo, ofTo_ext k (fun i hi => h i (by omega)), h k (by omega)]
    cases k with
    | zero => simp
    | succ m => rw [show m + 1 - 1 = m from rfl, h m (by omega)]
theorem ofL_ext {f g : Nat → Bool} (h : ∀ i, i < 256 → f i = g i) : ofL f = ofL g := ofTo_ext 256 h

/-- A list of spans as it must be, up to place b: within the objects, by rising places, apart. -/
def good (b : Int) (l : List (Int × Int)) : Prop := ∀ j, j < l.length → 0 ≤ (l.getD j (0, 0)).1 ∧ (l.getD j (0, 0)).1 ≤ (l.getD j (0, 0)).2 ∧ (l.getD j (0, 0)).2 < b ∧ (0 < j → (l.getD (j - 1) (0, 0)).2 + 1 < (l.getD j (0, 0)).1)
theorem good_nil (b : Int) : good b [] := fun j hj => by simp at hj
theorem good.mono {b c : Int} {l : List (Int × Int)} (h : good b l) (hbc : b ≤ c) : good c l := fun j hj => by
  obtain ⟨h1, h2, h3, h4⟩ := h j hj
  exact ⟨h1, h2, by omega, h4⟩
theorem getD_snoc_lt (l : List (Int × Int)) (s : Int × Int) (j : Nat) (h : j < l.length) : (l ++ [s]).getD j (0, 0) = l.getD j (0, 0) := by
  rw [List.getD_eq_getElem?_getD, List.getElem?_append_left h, List.getD_eq_getElem?_getD]
theorem getD_snoc_eq (l : List (Int × Int)) (s : Int × Int) : (l ++ [s]).getD l.length (0, 0) = s := by
  rw [List.getD_eq_getElem?_getD, List.getElem?_append_right (Nat.le_refl _), Nat.sub_self]
  rfl
theorem good.snoc {b : Int} {l : List (Int × Int)} (h : good b l) (s : Int × Int) (c : Int) (h1 : 0 ≤ s.1) (h2 : s.1 ≤ s.2) (h3 : s.2 < c) (hc : b ≤ c) (h4 : 0 < l.length → (l.getD (l.length - 1) (0, 0)).2 + 1 < s.1) : good c (l ++ [s]) := fun j hj => by
  rw [List.length_append, List.length_singleton] at hj
  rcases Nat.lt_or_ge j l.length with hlt | hge
  · rw [getD_snoc_lt l s j hlt, getD_snoc_lt l s (j - 1) (by omega)]
    obtain ⟨q1, q2, q3, q4⟩ := h j hlt
    exact ⟨q1, q2, by omega, q4⟩
  · have hj : j = l.length := by omega
    subst hj
    rw [getD_snoc_eq]
    refine ⟨h1, h2, h3, fun h0 => ?_⟩
    rw [getD_snoc_lt l s _ (by omega)]
    exact h4 h0
theorem dropLast_getD (l : List (Int × Int)) (j : Nat) (h : j < l.length - 1) : l.dropLast.getD j (0, 0) = l.getD j (0, 0) := by
  rw [List.getD_eq_getElem?_getD, List.getD_eq_getElem?_getD, List.getElem?_dropLast, if_pos h]
theorem reach_len (l : List (Int × Int)) (x : Int) (h : 0 < l.length) : (reach l x).length = l.length := by
  unfold reach
  rw [List.length_append, List.length_dropLast, List.length_singleton]
  omega
theorem reach_last (l : List (Int × Int)) (x : Int) : (reach l x).getD (l.length - 1) (0, 0) = ((l.getD (l.length - 1) (0, 0)).1, x) := by
  unfold reach
  have h2 := getD_snoc_eq l.dropLast ((l.getD (l.length - 1) (0, 0)).1, x)
  rw [List.length_dropLast] at h2
  exact h2
theorem reach_old (l : List (Int × Int)) (x : Int) (j : Nat) (h : j < l.length - 1) : (reach l x).getD j (0, 0) = l.getD j (0, 0) := by
  unfold reach
  rw [getD_snoc_lt _ _ _ (by rw [List.length_dropLast]; exact h), dropLast_getD l j h]
theorem good.reach {b : Int} {l : List (Int × Int)} (h : good b l) (x c : Int) (h0 : 0 < l.length) (hx : (l.getD (l.length - 1) (0, 0)).2 ≤ x) (hc : x < c) (hbc : b ≤ c) : good c (reach l x) := fun j hj => by
  rw [reach_len l x h0] at hj
  rcases Nat.lt_or_ge j (l.length - 1) with hlt | hge
  · rw [reach_old l x j hlt, reach_old l x (j - 1) (by omega)]
    obtain ⟨q1, q2, q3, q4⟩ := h j hj
    exact ⟨q1, q2, by omega, q4⟩
  · have hj : j = l.length - 1 := by omega
    subst hj
    rw [reach_last l x]
    obtain ⟨q1, q2, q3, q4⟩ := h (l.length - 1) (by omega)
    refine ⟨q1, by show (l.getD (l.length - 1) (0, 0)).1 ≤ x; omega, by show x < c; omega, fun hp => ?_⟩
    rw [reach_old l x _ (by omega)]
    exact q4 hp

theorem split_last (l : List (Int × Int)) (h : 0 < l.length) : l = l.dropLast ++ [l.getD (l.length - 1) (0, 0)] := by
  have hne : l ≠ [] := List.length_pos_iff.1 h
  have h1 := (List.dropLast_concat_getLast hne).symm
  have h2 : l.getD (l.length - 1) (0, 0) = l.getLast hne := by
    rw [List.getD_eq_getElem?_getD, List.getElem?_eq_getElem (by omega), Option.getD_some, List.getLast_eq_getElem]
  rw [h2]
  exact h1
theorem inL_reach (l : List (Int × Int)) (k : Nat) (h : 0 < l.length) (hlast : (l.getD (l.length - 1) (0, 0)).2 + 1 = (k : Int)) (hle : (l.getD (l.length - 1) (0, 0)).1 ≤ (l.getD (l.length - 1) (0, 0)).2) (o : Nat) : inL (reach l (k : Int)) o = (inL l o || decide (o = k)) := by
  have h1 : inL l o = (inL l.dropLast o || decide ((l.getD (l.length - 1) (0, 0)).1 ≤ (o : Int) ∧ (o : Int) ≤ (l.getD (l.length - 1) (0, 0)).2)) := by
    conv => lhs; rw [split_last l h]
    rw [inL_snoc]
  unfold reach
  rw [inL_snoc, h1, Bool.or_assoc]
  congr 1
  rw [Bool.eq_iff_iff]
  simp only [Bool.or_eq_true, decide_eq_true_eq]
  omega

/-- What the list of a set, up to k, is: as it must be; the objects of the set are in it; its last span ends with the last object before k if that is in the set. -/
theorem ofTo_is (f : Nat → Bool) : ∀ k : Nat, good (k : Int) (ofTo f k) ∧ (∀ o, inL (ofTo f k) o = (decide (o < k) && f o)) ∧ (0 < k → f (k - 1) = true → 0 < (ofTo f k).length ∧ ((ofTo f k).getD ((ofTo f k).length - 1) (0, 0)).2 + 1 = (k : Int)) ∧
      (0 < k → f (k - 1) = false → ∀ j, j < (ofTo f k).length → ((ofTo f k).getD j (0, 0)).2 + 1 < (k : Int))
  | 0 => ⟨good_nil _, fun o => by simp [ofTo, inL], fun h => by omega, fun h => by omega⟩
  | k + 1 => by
    obtain ⟨h1, h2, h3, h4⟩ := ofTo_is f k
    have hk : ((k + 1 : Nat) : Int) = (k : Int) + 1 := by omega
    cases hf : f k with
    | false =>
      have e : ofTo f (k + 1) = ofTo f k := by rw [ofTo, if_neg (by rw [hf]; simp)]
      rw [e]
      refine ⟨h1.mono (by omega), fun o => ?_, fun _ h => ?_, fun _ _ j hj => ?_⟩
      · rw [h2 o]
        by_cases ho : o = k
        · subst ho; rw [hf]; simp
        · congr 1
          rw [Bool.eq_iff_iff]
          simp only [decide_eq_true_eq]
          omega
      · rw [show k + 1 - 1 = k from rfl, hf] at h; cases h
      · have := (h1 j hj).2.2.1
        omega
    | true =>
      by_cases hp : 0 < k ∧ f (k - 1) = true
      · have e : ofTo f (k + 1) = reach (ofTo f k) (k : Int) := by rw [ofTo, if_pos hf, if_pos hp]
        obtain ⟨q1, q2⟩ := h3 hp.1 hp.2
        have hgl := h1 ((ofTo f k).length - 1) (by omega)
        rw [e]
        refine ⟨h1.reach (k : Int) _ q1 (by omega) (by omega) (by omega), fun o => ?_, fun _ _ => ?_, fun _ h => ?_⟩
        · rw [inL_reach _ k q1 q2 hgl.2.1, h2 o]
          rw [Bool.eq_iff_iff]
          simp only [Bool.or_eq_true, Bool.and_eq_true, decide_eq_true_eq]
          constructor
          · rintro (⟨a1, a2⟩ | rfl)
            · exact ⟨by omega, a2⟩
            · exact ⟨by omega, hf⟩
          · rintro ⟨a1, a2⟩
            by_cases ho : o = k
            · exact .inr ho
            · exact .inl ⟨by omega, a2⟩
        · rw [reach_len _ _ q1, reach_last _ _]
          exact ⟨q1, by show (k : Int) + 1 = _; omega⟩
        · rw [show k + 1 - 1 = k from rfl, hf] at h; cases h
      · have e : ofTo f (k + 1) = ofTo f k ++ [((k : Int), (k : Int))] := by rw [ofTo, if_pos hf, if_neg hp]
        rw [e]
        refine ⟨h1.snoc _ _ (by show (0 : Int) ≤ (k : Int); omega) (Int.le_refl _) (by show (k : Int) < _; omega) (by omega) ?_, fun o => ?_, fun _ _ => ?_, fun _ h => ?_⟩
        · intro hl
          have hk0 : 0 < k := by
            cases k with
            | zero => simp [ofTo] at hl
            | succ m => omega
          have hfk : f (k - 1) = false := by
            cases hq : f (k - 1) with
            | false => rfl
            | true => exact absurd ⟨hk0, hq⟩ hp
          have := h4 hk0 hfk ((ofTo f k).length - 1) (by omega)
          show _ < (k : Int)
          omega
        · rw [inL_snoc, h2 o]
          rw [Bool.eq_iff_iff]
          simp only [Bool.or_eq_true, Bool.and_eq_true, decide_eq_true_eq]
          constructor
          · rintro (⟨a1, a2⟩ | a1)
            · exact ⟨by omega, a2⟩
            · have : o = k := by omega
              subst this
              exact ⟨by omega, hf⟩
          · rintro ⟨a1, a2⟩
            by_cases ho : o = k
            · exact .inr (by omega)
            · exact .inl ⟨by omega, a2⟩
        · rw [List.length_append, List.length_singleton, Nat.add_sub_cancel, getD_snoc_eq]
          exact ⟨by omega, by show (k : Int) + 1 = _; omega⟩
        · rw [show k + 1 - 1 = k from rfl, hf] at h; cases h
theorem ofTo_short (f : Nat → Bool) : ∀ k, (ofTo f k).length ≤ k
  | 0 => Nat.le_refl _
  | k + 1 => by
    have h := ofTo_short f k
    rw [ofTo]
    split
    · split
      · unfold Sp.reach
        rw [List.length_append, List.length_dropLast, List.length_singleton]
        omega
      · rw [List.length_append, List.length_singleton]
        omega
    · omega
theorem good_ofL (f : Nat → Bool) : good 256 (ofL f) := (ofTo_is f 256).1
theorem inL_ofL (f : Nat → Bool) (o : Nat) (ho : o < 256) : inL (ofL f) o = f o := by
  unfold ofL
  rw [(ofTo_is f 256).2.1 o]
  simp [ho]

end Sp
end Go.Proofs.Ytmccednfaemiaaa
