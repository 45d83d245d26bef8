/-
  Rows of the call's own through later calls, and a row of rows. Nothing of the program is imported.
  Answers: a value; a list of pairs of numbers, wherever it lies. Lists in blocks of one's own. Nothing of the program is imported.
  Plain mathematics of sets of objects: which objects are in a list of spans; arrays of 256 marks; the list of a set. Nothing of the program is imported.
  Plain mathematics of sets of objects: a list as it must be is known by its objects; how many there are; what two sets have together. Nothing of the program is imported.
-/
import Derived.Test.YtbpgofgdlikedaaG02
import Derived.Test.YtbpgofgdlikedaaG01
namespace Go.Proofs.Ytbpgofgdlikedaa
open Go.RowKit

section
variable {w w' : World} {base size n : Nat} {e : TypeId} {v : Value} {xs : List Value}
theorem own_lt (h : w.ownsRow base e size v n xs) : ∀ k, v.ownBlock = some k → k < w.heap.size := by
  intro k hk
  rcases h.2 with ⟨rfl, _⟩ | ⟨g, cap, cur, rfl, _, hh, _⟩
  · simp [Value.ownBlock] at hk
  · simp [Value.ownBlock] at hk
    subst hk
    exact (Array.getElem?_eq_some_iff.1 hh).1
theorem own_stays (h : w.ownsRow base e size v n xs) (hs : ∀ k, v.ownBlock = some k → w'.heap[k]? = w.heap[k]?) : w'.ownsRow base e size v n xs := by
  obtain ⟨h0, h1⟩ := h
  refine ⟨h0, ?_⟩
  rcases h1 with h1 | ⟨g, cap, cur, hv, hg, hh, r⟩
  · exact .inl h1
  · refine .inr ⟨g, cap, cur, hv, hg, ?_, r⟩
    rw [hs g (by rw [hv]; rfl)]
    exact hh
theorem own_later (h : w.ownsRow base e size v n xs) (hb : Below w.heap.size w w') : w'.ownsRow base e size v n xs :=
  own_stays h (fun k hk => hb.block k (own_lt h k hk))
/-- Rows of different kinds lie in different blocks. -/
theorem own_apart {base' size' n' : Nat} {e' : TypeId} {v' : Value} {xs' : List Value} (h : w.ownsRow base e size v n xs) (h' : w.ownsRow base' e' size' v' n' xs') (hne : e ≠ e') : ∀ k, v.ownBlock = some k → some k ≠ v'.ownBlock := by
  intro k hk hk'
  rcases h.2 with ⟨rfl, _⟩ | ⟨g, cap, cur, rfl, _, hh, _⟩
  · simp [Value.ownBlock] at hk
  · rcases h'.2 with ⟨rfl, _⟩ | ⟨g', cap', cur', rfl, _, hh', _⟩
    · simp [Value.ownBlock] at hk'
    · simp [Value.ownBlock] at hk hk'
      subst hk
      subst hk'
      rw [hh] at hh'
      simp at hh'
      exact hne hh'.2
end

/-- The cells of a row of lists. -/
def rowCells : List (Option Addr × Nat) → List (List (Int × Int)) → List Value
  | [], _ => []
  | _ :: _, [] => []
  | x :: cs, l :: ls => .slice x.1 l.length x.2 :: rowCells cs ls
theorem rowCells_snoc : ∀ (cs : List (Option Addr × Nat)) (x : Option Addr × Nat) (ls : List (List (Int × Int))) (_ : cs.length < ls.length), rowCells (cs ++ [x]) ls = rowCells cs ls ++ [.slice x.1 (ls.getD cs.length []).length x.2]
  | [], x, [], h => by simp at h
  | [], x, l :: ls, _ => by simp [rowCells]
  | c :: cs, x, [], h => by simp at h
  | c :: cs, x, l :: ls, h => by
    have := rowCells_snoc cs x ls (by simpa using h)
    simp [rowCells, this]
theorem rowCells_get : ∀ (cs : List (Option Addr × Nat)) (ls : List (List (Int × Int))) (k : Nat), k < cs.length → k < ls.length → (rowCells cs ls)[k]? = some (.slice (cs.getD k (none, 0)).1 (ls.getD k []).length (cs.getD k (none, 0)).2)
  | [], _, k, h, _ => by simp at h
  | c :: cs, [], k, _, h => by simp at h
  | c :: cs, l :: ls, 0, _, _ => by simp [rowCells]
  | c :: cs, l :: ls, k + 1, h, h' => by
    have := rowCells_get cs ls k (by simpa using h) (by simpa using h')
    simpa [rowCells] using this
end Go.Proofs.Ytbpgofgdlikedaa
namespace Go.Proofs.Ytbpgofgdlikedaa
open Go.RowKit

/-- A list is answered; what was there before is as it was. -/
def Ans (l : List (Int × Int)) (w : World) (e : Ending) (w' : World) : Prop := ∃ A c, e = .returned (.slice A l.length c) ∧ OneL w' A c l ∧ Below w.heap.size w w'
/-- A value is answered; what was there before is as it was. -/
def Says (v : Value) (w : World) (e : Ending) (w' : World) : Prop := e = .returned v ∧ Below w.heap.size w w'

theorem two_slots (w : World) (x y : Value) (t : TypeId) : Blk (w.alloc (.cells #[x, y] t)) w.heap.size t #[x, y] := Blk.new w t _

/-- Two lists in a block of two. -/
theorem rows_two {w : World} {g : Nat} {t : TypeId} {A B : Option Addr} {c d : Nat} {l r : List (Int × Int)} (hB : Blk w g t #[.slice A l.length c, .slice B r.length d]) (h1 : OneL w A c l) (h2 : OneL w B d r) : Rows w (some ⟨g, 0, none⟩) [l, r] := fun _ => ⟨g, 0, rfl, fun k hk => by
  have hk2 : k = 0 ∨ k = 1 := by simp at hk; omega
  rcases hk2 with rfl | rfl
  · exact ⟨A, c, hB.cell rfl, h1⟩
  · exact ⟨B, d, hB.cell rfl, h2⟩⟩
/-- One stamp in a block of its own. -/
theorem one_stamp {w : World} {g : Nat} {t : TypeId} {c n : Int} (hB : Blk w g t #[.int .i64 c, .int .i64 n]) : OneL w (some ⟨g, 0, none⟩) 1 [(c, n)] :=
  ⟨Nat.le_refl _, (by unfold maxLen; omega), (fun h => by cases h), fun _ => ⟨g, 0, rfl, fun j u hu => by
    rw [Nat.zero_add]
    exact hB.cell (by simpa [stCells] using hu)⟩⟩
/-- One list in a block of one. -/
theorem rows_one {w : World} {g : Nat} {t : TypeId} {A : Option Addr} {c : Nat} {l : List (Int × Int)} (hB : Blk w g t #[.slice A l.length c]) (h1 : OneL w A c l) : Rows w (some ⟨g, 0, none⟩) [l] := fun _ => ⟨g, 0, rfl, fun k hk => by
  have hk0 : k = 0 := by simp at hk; omega
  subst hk0
  exact ⟨A, c, hB.cell rfl, h1⟩⟩

end Go.Proofs.Ytbpgofgdlikedaa
namespace Go.Proofs.Ytbpgofgdlikedaa
namespace Sp

/-- Is an object in a list of spans? -/
def inL (l : List (Int × Int)) (o : Nat) : Bool := l.any fun s => decide (s.1 ≤ (o : Int) ∧ (o : Int) ≤ s.2)
theorem inL_iff (l : List (Int × Int)) (o : Nat) : inL l o = true ↔ ∃ s ∈ l, s.1 ≤ (o : Int) ∧ (o : Int) ≤ s.2 := by
  unfold inL
  rw [List.any_eq_true]
  constructor
  · rintro ⟨s, h1, h2⟩
    exact ⟨s, h1, of_decide_eq_true h2⟩
  · rintro ⟨s, h1, h2⟩
    exact ⟨s, h1, decide_eq_true h2⟩
theorem inL_snoc (l : List (Int × Int)) (s : Int × Int) (o : Nat) : inL (l ++ [s]) o = (inL l o || decide (s.1 ≤ (o : Int) ∧ (o : Int) ≤ s.2)) := by
  unfold inL
  rw [List.any_append]
  simp
theorem inL_take (l : List (Int × Int)) (k : Nat) (h : k < l.length) (o : Nat) : inL (l.take (k + 1)) o = (inL (l.take k) o || decide (l[k].1 ≤ (o : Int) ∧ (o : Int) ≤ l[k].2)) := by
  rw [List.take_succ_eq_append_getElem h, inL_snoc]

/-- An array of 256 marks, as cells. -/
def arr (f : Nat → Bool) : Array Value := ((List.range 256).map fun i => Value.bool (f i)).toArray
theorem arr_size (f : Nat → Bool) : (arr f).size = 256 := by simp [arr]
theorem arr_get (f : Nat → Bool) (i : Nat) (h : i < 256) : (arr f)[i]? = some (.bool (f i)) := by simp [arr, h]
theorem arr_ext {f g : Nat → Bool} (h : ∀ i, i < 256 → f i = g i) : arr f = arr g := by
  unfold arr
  congr 1
  apply List.map_congr_left
  intro i hi
  rw [h i (List.mem_range.1 hi)]
theorem arr_set (f : Nat → Bool) (i : Nat) (x : Bool) (_h : i < 256) : (arr f).setIfInBounds i (.bool x) = arr (fun j => if j = i then x else f j) := by
  apply Array.ext_getElem?
  intro j
  by_cases hj : j < 256
  · rw [arr_get _ j hj, Array.getElem?_setIfInBounds]
    by_cases e : i = j
    · subst e
      rw [if_pos rfl, if_pos (by rw [arr_size]; exact hj), if_pos rfl]
    · rw [if_neg e, arr_get _ j hj, if_neg (fun h => e h.symm)]
  · rw [Array.getElem?_eq_none (by rw [Array.size_setIfInBounds, arr_size]; omega), Array.getElem?_eq_none (by rw [arr_size]; omega)]

/-- An array of 257 numbers, as cells. -/
def nar (f : Nat → Int) : Array Value := ((List.range 257).map fun i => Value.int .i64 (f i)).toArray
theorem nar_size (f : Nat → Int) : (nar f).size = 257 := by simp [nar]
theorem nar_get (f : Nat → Int) (i : Nat) (h : i < 257) : (nar f)[i]? = some (.int .i64 (f i)) := by simp [nar, h]
theorem nar_ext {f g : Nat → Int} (h : ∀ i, i < 257 → f i = g i) : nar f = nar g := by
  unfold nar
  congr 1
  apply List.map_congr_left
  intro i hi
  rw [h i (List.mem_range.1 hi)]
theorem nar_set (f : Nat → Int) (i : Nat) (x : Int) : (nar f).setIfInBounds i (.int .i64 x) = nar (fun j => if j = i then x else f j) := by
  apply Array.ext_getElem?
  intro j
  by_cases hj : j < 257
  · rw [nar_get _ j hj, Array.getElem?_setIfInBounds]
    by_cases e : i = j
    · subst e
      rw [if_pos rfl, if_pos (by rw [nar_size]; exact hj), if_pos rfl]
    · rw [if_neg e, nar_get _ j hj, if_neg (fun h => e h.symm)]
  · rw [Array.getElem?_eq_none (by rw [Array.size_setIfInBounds, nar_size]; omega), Array.getElem?_eq_none (by rw [nar_size]; omega)]

/-- The last span reaches up to an object now. -/
def reach (l : List (Int × Int)) (x : Int) : List (Int × Int) := l.dropLast ++ [((l.getD (l.length - 1) (0, 0)).1, x)]
/-- The list of a set, up to object k. -/
def ofTo (f : Nat → Bool) : Nat → List (Int × Int)
  | 0 => []
  | k + 1 => if f k = true then (if 0 < k ∧ f (k - 1) = true then reach (ofTo f k) (k : Int) else ofTo f k ++ [((k : Int), (k : Int))]) else ofTo f k
def ofL (f : Nat → Bool) : List (Int × Int) := ofTo f 256
theorem ofTo_ext {f g : Nat → Bool} : ∀ k, (∀ i, i < k → f i = g i) → ofTo f k = ofTo g k
  | 0, _ => rfl
  | k + 1, h => by
    rw [ofTo, ofTo, ofTo_ext k (fun i hi => h i (by omega)), h k (by omega)]
    cases k with
    | zero => simp
    | succ m => rw [show m + 1 - 1 = m from rfl, h m (by omega)]
theorem ofL_ext {f g : Nat → Bool} (h : ∀ i, i < 256 → f i = g i) : ofL f = ofL g := ofTo_ext 256 h

/-- A list of spans as it must be, up to place b: within the objects, by rising places, apart. -/
def good (b : Int) (l : List (Int × Int)) : Prop := ∀ j, j < l.length → 0 ≤ (l.getD j (0, 0)).1 ∧ (l.getD j (0, 0)).1 ≤ (l.getD j (0, 0)).2 ∧ (l.getD j (0, 0)).2 < b ∧ (0 < j → (l.getD (j - 1) (0, 0)).2 + 1 < (l.getD j (0, 0)).1)
theorem good_nil (b : Int) : good b [] := fun j hj => by simp at hj
theorem good.mono {b c : Int} {l : List (Int × Int)} (h : good b l) (hbc : b ≤ c) : good c l := fun j hj => by
  obtain ⟨h1, h2, h3, h4⟩ := h j hj
  exact ⟨h1, h2, by omega, h4⟩
theorem getD_snoc_lt (l : List (Int × Int)) (s : Int × Int) (j : Nat) (h : j < l.length) : (l ++ [s]).getD j (0, 0) = l.getD j (0, 0) := by
  rw [List.getD_eq_getElem?_getD, List.getElem?_append_left h, List.getD_eq_getElem?_getD]
theorem getD_snoc_eq (l : List (Int × Int)) (s : Int × Int) : (l ++ [s]).getD l.length (0, 0) = s := by
  rw [List.getD_eq_getElem?_getD, List.getElem?_append_right (Nat.le_refl _), Nat.sub_self]
  rfl
theorem good.snoc {b : Int} {l : List (Int × Int)} (h : good b l) (s : Int × Int) (c : Int) (h1 : 0 ≤ s.1) (h2 : s.1 ≤ s.2) (h3 : s.2 < c) (hc : b ≤ c) (h4 : 0 < l.length → (l.getD (l.length - 1) (0, 0)).2 + 1 < s.1) : good c (l ++ [s]) := fun j hj => by
  rw [List.length_append, List.length_singleton] at hj
  rcases Nat.lt_or_ge j l.length with hlt | hge
  · rw [getD_snoc_lt l s j hlt, getD_snoc_lt l s (j - 1) (by omega)]
    obtain ⟨q1, q2, q3, q4⟩ := h j hlt
    exact ⟨q1, q2, by omega, q4⟩
  · have hj : j = l.length := by omega
    subst hj
    rw [getD_snoc_eq]
    refine ⟨h1, h2, h3, fun h0 => ?_⟩
    rw [getD_snoc_lt l s _ (by omega)]
    exact h4 h0
theorem dropLast_getD (l : List (Int × Int)) (j : Nat) (h : j < l.length - 1) : l.dropLast.getD j (0, 0) = l.getD j (0, 0) := by
  rw [List.getD_eq_getElem?_getD, List.getD_eq_getElem?_getD, List.getElem?_dropLast, if_pos h]
theorem reach_len (l : List (Int × Int)) (x : Int) (h : 0 < l.length) : (reach l x).length = l.length := by
  unfold reach
  rw [List.length_append, List.length_dropLast, List.length_singleton]
  omega
theorem reach_last (l : List (Int × Int)) (x : Int) : (reach l x).getD (l.length - 1) (0, 0) = ((l.getD (l.length - 1) (0, 0)).1, x) := by
  unfold reach
  have h2 := getD_snoc_eq l.dropLast ((l.getD (l.length - 1) (0, 0)).1, x)
  rw [List.length_dropLast] at h2
  exact h2
theorem reach_old (l : List (Int × Int)) (x : Int) (j : Nat) (h : j < l.length - 1) : (reach l x).getD j (0, 0) = l.getD j (0, 0) := by
  unfold reach
  rw [getD_snoc_lt _ _ _ (by rw [List.length_dropLast]; exact h), dropLast_getD l j h]
theorem good.reach {b : Int} {l : List (Int × Int)} (h : good b l) (x c : Int) (h0 : 0 < l.length) (hx : (l.getD (l.length - 1) (0, 0)).2 ≤ x) (hc : x < c) (hbc : b ≤ c) : good c (reach l x) := fun j hj => by
  rw [reach_len l x h0] at hj
  rcases Nat.lt_or_ge j (l.length - 1) with hlt | hge
  · rw [reach_old l x j hlt, reach_old l x (j - 1) (by omega)]
    obtain ⟨q1, q2, q3, q4⟩ := h j hj
    exact ⟨q1, q2, by omega, q4⟩
  · have hj : j = l.length - 1 := by omega
    subst hj
    rw [reach_last l x]
    obtain ⟨q1, q2, q3, q4⟩ := h (l.length - 1) (by omega)
    refine ⟨q1, by show (l.getD (l.length - 1) (0, 0)).1 ≤ x; omega, by show x < c; omega, fun hp => ?_⟩
    rw [reach_old l x _ (by omega)]
    exact q4 hp

theorem split_last (l : List (Int × Int)) (h : 0 < l.length) : l = l.dropLast ++ [l.getD (l.length - 1) (0, 0)] := by
  have hne : l ≠ [] := List.length_pos_iff.1 h
  have h1 := (List.dropLast_concat_getLast hne).symm
  have h2 : l.getD (l.length - 1) (0, 0) = l.getLast hne := by
    rw [List.getD_eq_getElem?_getD, List.getElem?_eq_getElem (by omega), Option.getD_some, List.getLast_eq_getElem]
  rw [h2]
  exact h1
theorem inL_reach (l : List (Int × Int)) (k : Nat) (h : 0 < l.length) (hlast : (l.getD (l.length - 1) (0, 0)).2 + 1 = (k : Int)) (hle : (l.getD (l.length - 1) (0, 0)).1 ≤ (l.getD (l.length - 1) (0, 0)).2) (o : Nat) : inL (reach l (k : Int)) o = (inL l o || decide (o = k)) := by
  have h1 : inL l o = (inL l.dropLast o || decide ((l.getD (l.length - 1) (0, 0)).1 ≤ (o : Int) ∧ (o : Int) ≤ (l.getD (l.length - 1) (0, 0)).2)) := by
    conv => lhs; rw [split_last l h]
    rw [inL_snoc]
  unfold reach
  rw [inL_snoc, h1, Bool.or_assoc]
  congr 1
  rw [Bool.eq_iff_iff]
  simp only [Bool.or_eq_true, decide_eq_true_eq]
  omega

/-- What the list of a set, up to k, is: as it must be; the objects of the set are in it; its last span ends with the last object before k if that is in the set. -/
theorem ofTo_is (f : Nat → Bool) : ∀ k : Nat, good (k : Int) (ofTo f k) ∧ (∀ o, inL (ofTo f k) o = (decide (o < k) && f o)) ∧ (0 < k → f (k - 1) = true → 0 < (ofTo f k).length ∧ ((ofTo f k).getD ((ofTo f k).length - 1) (0, 0)).2 + 1 = (k : Int)) ∧
      (0 < k → f (k - 1) = false → ∀ j, j < (ofTo f k).length → ((ofTo f k).getD j (0, 0)).2 + 1 < (k : Int))
  | 0 => ⟨good_nil _, fun o => by simp [ofTo, inL], fun h => by omega, fun h => by omega⟩
  | k + 1 => by
    obtain ⟨h1, h2, h3, h4⟩ := ofTo_is f k
    have hk : ((k + 1 : Nat) : Int) = (k : Int) + 1 := by omega
    cases hf : f k with
    | false =>
      have e : ofTo f (k + 1) = ofTo f k := by rw [ofTo, if_neg (by rw [hf]; simp)]
      rw [e]
      refine ⟨h1.mono (by omega), fun o => ?_, fun _ h => ?_, fun _ _ j hj => ?_⟩
      · rw [h2 o]
        by_cases ho : o = k
        · subst ho; rw [hf]; simp
        · congr 1
          rw [Bool.eq_iff_iff]
          simp only [decide_eq_true_eq]
          omega
      · rw [show k + 1 - 1 = k from rfl, hf] at h; cases h
      · have := (h1 j hj).2.2.1
        omega
    | true =>
      by_cases hp : 0 < k ∧ f (k - 1) = true
      · have e : ofTo f (k + 1) = reach (ofTo f k) (k : Int) := by rw [ofTo, if_pos hf, if_pos hp]
        obtain ⟨q1, q2⟩ := h3 hp.1 hp.2
        have hgl := h1 ((ofTo f k).length - 1) (by omega)
        rw [e]
        refine ⟨h1.reach (k : Int) _ q1 (by omega) (by omega) (by omega), fun o => ?_, fun _ _ => ?_, fun _ h => ?_⟩
        · rw [inL_reach _ k q1 q2 hgl.2.1, h2 o]
          rw [Bool.eq_iff_iff]
          simp only [Bool.or_eq_true, Bool.and_eq_true, decide_eq_true_eq]
          constructor
          · rintro (⟨a1, a2⟩ | rfl)
            · exact ⟨by omega, a2⟩
            · exact ⟨by omega, hf⟩
          · rintro ⟨a1, a2⟩
            by_cases ho : o = k
            · exact .inr ho
            · exact .inl ⟨by omega, a2⟩
        · rw [reach_len _ _ q1, reach_last _ _]
          exact ⟨q1, by show (k : Int) + 1 = _; omega⟩
        · rw [show k + 1 - 1 = k from rfl, hf] at h; cases h
      · have e : ofTo f (k + 1) = ofTo f k ++ [((k : Int), (k : Int))] := by rw [ofTo, if_pos hf, if_neg hp]
        rw [e]
        refine ⟨h1.snoc _ _ (by show (0 : Int) ≤ (k : Int); omega) (Int.le_refl _) (by show (k : Int) < _; omega) (by omega) ?_, fun o => ?_, fun _ _ => ?_, fun _ h => ?_⟩
        · intro hl
          have hk0 : 0 < k := by
            cases k with
            | zero => simp [ofTo] at hl
            | succ m => omega
          have hfk : f (k - 1) = false := by
            cases hq : f (k - 1) with
            | false => rfl
            | true => exact absurd ⟨hk0, hq⟩ hp
          have := h4 hk0 hfk ((ofTo f k).length - 1) (by omega)
          show _ < (k : Int)
          omega
        · rw [inL_snoc, h2 o]
          rw [Bool.eq_iff_iff]
          simp only [Bool.or_eq_true, Bool.and_eq_true, decide_eq_true_eq]
          constructor
          · rintro (⟨a1, a2⟩ | a1)
            · exact ⟨by omega, a2⟩
            · have : o = k := by omega
              subst this
              exact ⟨by omega, hf⟩
          · rintro ⟨a1, a2⟩
            by_cases ho : o = k
            · exact .inr (by omega)
            · exact .inl ⟨by omega, a2⟩
        · rw [List.length_append, List.length_singleton, Nat.add_sub_cancel, getD_snoc_eq]
          exact ⟨by omega, by show (k : Int) + 1 = _; omega⟩
        · rw [show k + 1 - 1 = k from rfl, hf] at h; cases h
theorem ofTo_short (f : Nat → Bool) : ∀ k, (ofTo f k).length ≤ k
  | 0 => Nat.le_refl _
  | k + 1 => by
    have h := ofTo_short f k
    rw [ofTo]
    split
    · split
      · unfold Sp.reach
        rw [List.length_append, List.length_dropLast, List.length_singleton]
        omega
      · rw [List.length_append, List.length_singleton]
        omega
    · omega
theorem good_ofL (f : Nat → Bool) : good 256 (ofL f) := (ofTo_is f 256).1
theorem inL_ofL (f : Nat → Bool) (o : Nat) (ho : o < 256) : inL (ofL f) o = f o := by
  unfold ofL
  rw [(ofTo_is f 256).2.1 o]
  simp [ho]

end Sp
end Go.Proofs.Ytbpgofgdlikedaa
namespace Go.Proofs.Ytbpgofgdlikedaa
namespace Sp

/-- The same, from the front: all places from b on. -/
def gf : Int → List (Int × Int) → Prop
  | _, [] => True
  | b, s :: r => b ≤ s.1 ∧ s.1 ≤ s.2 ∧ s.2 ≤ 255 ∧ gf (s.2 + 2) r
theorem inL_cons (s : Int × Int) (r : List (Int × Int)) (o : Nat) : inL (s :: r) o = (decide (s.1 ≤ (o : Int) ∧ (o : Int) ≤ s.2) || inL r o) := rfl
theorem good_gf : ∀ (l : List (Int × Int)) (b : Int), good 256 l → (0 < l.length → b ≤ (l.getD 0 (0, 0)).1) → gf b l
  | [], _, _, _ => trivial
  | s :: r, b, h, hb => by
    obtain ⟨_, h2, h3, _⟩ := h 0 (by simp)
    have h2' : s.1 ≤ s.2 := h2
    have h3' : s.2 < 256 := h3
    refine ⟨hb (by simp), h2', by omega, good_gf r _ (fun j hj => ?_) (fun h0 => ?_)⟩
    · obtain ⟨q1, q2, q3, q4⟩ := h (j + 1) (by simp; omega)
      refine ⟨q1, q2, q3, fun hp => ?_⟩
      have q5 := q4 (by omega)
      cases j with
      | zero => omega
      | succ m => exact q5
    · obtain ⟨_, _, _, q4⟩ := h 1 (by simp; omega)
      have q5 : s.2 + 1 < (r.getD 0 (0, 0)).1 := q4 (by omega)
      omega
theorem gf_from : ∀ (l : List (Int × Int)) (b : Int), gf b l → ∀ o : Nat, inL l o = true → b ≤ (o : Int)
  | [], _, _, o, h => by simp [inL] at h
  | s :: r, b, h, o, ho => by
    obtain ⟨h1, h2, h3, h4⟩ := h
    rw [inL_cons, Bool.or_eq_true, decide_eq_true_eq] at ho
    rcases ho with ho | ho
    · omega
    · have := gf_from r _ h4 o ho
      omega
theorem gf_uniq : ∀ (l r : List (Int × Int)) (b : Int), 0 ≤ b → gf b l → gf b r → (∀ o : Nat, o < 256 → inL l o = inL r o) → l = r
  | [], [], _, _, _, _, _ => rfl
  | [], t :: r, b, hb, _, h, he => by
    obtain ⟨h1, h2, h3, _⟩ := h
    have := he t.1.toNat (by omega)
    rw [inL_cons, decide_eq_true (by omega)] at this
    simp [inL] at this
  | s :: l, [], b, hb, h, _, he => by
    obtain ⟨h1, h2, h3, _⟩ := h
    have := he s.1.toNat (by omega)
    rw [inL_cons, decide_eq_true (by omega)] at this
    simp [inL] at this
  | s :: l, t :: r, b, hb, hl, hr, he => by
    obtain ⟨a1, a2, a3, a4⟩ := hl
    obtain ⟨c1, c2, c3, c4⟩ := hr
    have e1 : s.1 ≤ t.1 := by
      have h := he t.1.toNat (by omega)
      rw [inL_cons t, decide_eq_true (p := t.1 ≤ ((t.1.toNat : Nat) : Int) ∧ ((t.1.toNat : Nat) : Int) ≤ t.2) (by omega), Bool.true_or] at h
      have := gf_from (s :: l) s.1 ⟨Int.le_refl _, a2, a3, a4⟩ _ h
      omega
    have e2 : t.1 ≤ s.1 := by
      have h := he s.1.toNat (by omega)
      rw [inL_cons s, decide_eq_true (p := s.1 ≤ ((s.1.toNat : Nat) : Int) ∧ ((s.1.toNat : Nat) : Int) ≤ s.2) (by omega), Bool.true_or] at h
      have := gf_from (t :: r) t.1 ⟨Int.le_refl _, c2, c3, c4⟩ _ h.symm
      omega
    have e3 : ¬ s.2 < t.2 := fun hlt => by
      have h := he (s.2 + 1).toNat (by omega)
      rw [inL_cons t, decide_eq_true (p := t.1 ≤ (((s.2 + 1).toNat : Nat) : Int) ∧ (((s.2 + 1).toNat : Nat) : Int) ≤ t.2) (by omega), Bool.true_or, inL_cons, Bool.or_eq_true, decide_eq_true_eq] at h
      rcases h with h | h
      · omega
      · have := gf_from l _ a4 _ h
        omega
    have e4 : ¬ t.2 < s.2 := fun hlt => by
      have h := he (t.2 + 1).toNat (by omega)
      rw [inL_cons s, decide_eq_true (p := s.1 ≤ (((t.2 + 1).toNat : Nat) : Int) ∧ (((t.2 + 1).toNat : Nat) : Int) ≤ s.2) (by omega), Bool.true_or] at h
      have h := h.symm
      rw [inL_cons, Bool.or_eq_true, decide_eq_true_eq] at h
      rcases h with h | h
      · omega
      · have := gf_from r _ c4 _ h
        omega
    have e5 : s = t := Prod.ext (by omega) (by omega)
    subst e5
    have e6 := gf_uniq l r (s.2 + 2) (by omega) a4 c4 (fun o ho => by
      have h := he o ho
      rw [inL_cons, inL_cons] at h
      cases hd : decide (s.1 ≤ (o : Int) ∧ (o : Int) ≤ s.2) with
      | false => rw [hd, Bool.false_or, Bool.false_or] at h; exact h
      | true =>
        have hd := of_decide_eq_true hd
        have n1 : inL l o = false := by
          cases hq : inL l o with
          | false => rfl
          | true => have := gf_from l _ a4 _ hq; omega
        have n2 : inL r o = false := by
          cases hq : inL r o with
          | false => rfl
          | true => have := gf_from r _ c4 _ hq; omega
        rw [n1, n2])
    rw [e6]
theorem good_uniq {l r : List (Int × Int)} (hl : good 256 l) (hr : good 256 r) (h : ∀ o : Nat, o < 256 → inL l o = inL r o) : l = r :=
  gf_uniq l r 0 (Int.le_refl _) (good_gf l 0 hl (fun h0 => (hl 0 h0).1)) (good_gf r 0 hr (fun h0 => (hr 0 h0).1)) h
theorem good_lo {b : Int} {l : List (Int × Int)} (h : good b l) : ∀ j, j < l.length → 2 * (j : Int) ≤ (l.getD j (0, 0)).1
  | 0, hj => (h 0 hj).1
  | j + 1, hj => by
    have h1 := good_lo h j (by omega)
    have h2 := (h j (by omega)).2.1
    have h3 : (l.getD j (0, 0)).2 + 1 < (l.getD (j + 1) (0, 0)).1 := (h (j + 1) hj).2.2.2 (by omega)
    omega
theorem good_len {l : List (Int × Int)} (h : good 256 l) : l.length ≤ 128 := by
  rcases Nat.lt_or_ge 128 l.length with hlt | hge
  · have h1 := good_lo h 128 hlt
    obtain ⟨_, h2, h3, _⟩ := h 128 hlt
    omega
  · exact hge
theorem ofL_len (f : Nat → Bool) : (ofL f).length ≤ 128 := good_len (good_ofL f)
theorem ofL_self {l : List (Int × Int)} (h : good 256 l) : ofL (inL l) = l := good_uniq (good_ofL _) h fun o ho => inL_ofL _ o ho

/-- Is it a set as it must be? -/
def fmd (l : List (Int × Int)) : Bool := decide (l.length ≤ 128 ∧ l = ofL (inL l))
theorem fmd_iff (l : List (Int × Int)) : fmd l = true ↔ good 256 l := by
  unfold fmd
  rw [decide_eq_true_eq]
  constructor
  · rintro ⟨_, h⟩
    rw [h]
    exact good_ofL _
  · intro h
    exact ⟨good_len h, (ofL_self h).symm⟩
theorem fmd_ofL (f : Nat → Bool) : fmd (ofL f) = true := (fmd_iff _).2 (good_ofL f)

theorem two (b : Bool) : b = true ∨ b = false := by cases b <;> simp
/-- How many objects, up to k. -/
def szTo (f : Nat → Bool) : Nat → Nat
  | 0 => 0
  | k + 1 => if f k = true then szTo f k + 1 else szTo f k
def sz (f : Nat → Bool) : Nat := szTo f 256
theorem szTo_le (f : Nat → Bool) : ∀ k, szTo f k ≤ k
  | 0 => Nat.le_refl _
  | k + 1 => by
    have := szTo_le f k
    unfold szTo
    split <;> omega
theorem sz_le2 (f : Nat → Bool) : sz f ≤ 256 := szTo_le f 256
theorem szTo_ext {f g : Nat → Bool} : ∀ k, (∀ i, i < k → f i = g i) → szTo f k = szTo g k
  | 0, _ => rfl
  | k + 1, h => by rw [szTo, szTo, szTo_ext k (fun i hi => h i (by omega)), h k (by omega)]
theorem sz_ext {f g : Nat → Bool} (h : ∀ i, i < 256 → f i = g i) : sz f = sz g := szTo_ext 256 h
theorem szTo_split (a b : Nat → Bool) : ∀ k, szTo (fun o => a o && b o) k + szTo (fun o => a o && !b o) k = szTo a k
  | 0 => rfl
  | k + 1 => by
    have := szTo_split a b k
    simp only [szTo]
    rcases two (a k) with ha | ha <;> rcases two (b k) with hb | hb <;> simp [ha, hb] <;> omega
theorem sz_split (a b : Nat → Bool) : sz (fun o => a o && b o) + sz (fun o => a o && !b o) = sz a := szTo_split a b 256
theorem szTo_all {f : Nat → Bool} : ∀ k, (∀ i, i < k → f i = true) → szTo f k = k
  | 0, _ => rfl
  | k + 1, h => by rw [szTo, if_pos (h k (by omega)), szTo_all k (fun i hi => h i (by omega))]
theorem sz_all {f : Nat → Bool} (h : ∀ i, i < 256 → f i = true) : sz f = 256 := szTo_all 256 h
theorem szTo_sub (a b : Nat → Bool) : ∀ k, szTo (fun o => a o && b o) k ≤ szTo b k ∧ (szTo (fun o => a o && b o) k = szTo b k ↔ ∀ i, i < k → b i = true → a i = true)
  | 0 => ⟨Nat.le_refl _, fun _ i hi => by omega, fun _ => rfl⟩
  | k + 1 => by
    obtain ⟨h1, h2⟩ := szTo_sub a b k
    have step : (∀ i, i < k + 1 → b i = true → a i = true) ↔ (∀ i, i < k → b i = true → a i = true) ∧ (b k = true → a k = true) := by
      constructor
      · intro h
        exact ⟨fun i hi => h i (by omega), h k (by omega)⟩
      · rintro ⟨p, q⟩ i hi
        by_cases e : i = k
        · subst e; exact q
        · exact p i (by omega)
    rw [step, ← h2]
    simp only [szTo]
    rcases two (a k) with ha | ha <;> rcases two (b k) with hb | hb <;> simp [ha, hb] <;> omega

/-- How many spans many lists hold together. -/
def tot (ls : List (List (Int × Int))) : Nat := (ls.map List.length).sum
theorem tot_one (l : List (Int × Int)) : tot [l] = l.length := by simp [tot]
theorem tot_two (l r : List (Int × Int)) : tot [l, r] = l.length + r.length := by simp [tot]
theorem tot_le (n : Nat) : ∀ (ls : List (List (Int × Int))), (∀ k, k < ls.length → (ls.getD k []).length ≤ n) → tot ls ≤ ls.length * n
  | [], _ => by simp [tot]
  | l :: r, h => by
    have h0 : l.length ≤ n := h 0 (by simp)
    have h1 := tot_le n r (fun k hk => h (k + 1) (by simp; omega))
    have e : tot (l :: r) = l.length + tot r := by simp [tot]
    rw [e, List.length_cons, Nat.succ_mul]
    omega

/-- Is all of g in f? Is one in both? -/
def cov (f g : Nat → Bool) : Bool := decide (∀ o : Fin 256, g o.val = true → f o.val = true)
def touch (f g : Nat → Bool) : Bool := decide (∃ o : Fin 256, f o.val = true ∧ g o.val = true)
theorem cov_iff (f g : Nat → Bool) : cov f g = true ↔ ∀ o, o < 256 → g o = true → f o = true := by
  unfold cov
  rw [decide_eq_true_iff]
  exact ⟨fun h o ho => h ⟨o, ho⟩, fun h o => h o.val o.isLt⟩
theorem touch_iff (f g : Nat → Bool) : touch f g = true ↔ ∃ o, o < 256 ∧ f o = true ∧ g o = true := by
  unfold touch
  rw [decide_eq_true_iff]
  exact ⟨fun ⟨o, h⟩ => ⟨o.val, o.isLt, h⟩, fun ⟨o, ho, h⟩ => ⟨⟨o, ho⟩, h⟩⟩
theorem cov_sz (a b : Nat → Bool) : cov a b = (sz (fun o => a o && b o) == sz b) := by
  rw [Bool.eq_iff_iff, cov_iff, beq_iff_eq]
  exact (szTo_sub a b 256).2.symm
theorem ofL_nil (f : Nat → Bool) : (ofL f).length = 0 ↔ ∀ o, o < 256 → f o = false := by
  constructor
  · intro h o ho
    rw [← inL_ofL f o ho, List.eq_nil_of_length_eq_zero h]
    rfl
  · intro h
    have : ofL f = [] := good_uniq (good_ofL f) (good_nil _) fun o ho => by rw [inL_ofL f o ho, h o ho]; rfl
    rw [this]
    rfl
theorem cov_ref (f g : Nat → Bool) : cov f g = ((ofL fun o => g o && !f o).length == 0) := by
  rw [Bool.eq_iff_iff, cov_iff, beq_iff_eq, ofL_nil]
  constructor
  · intro h o ho
    have := h o ho
    cases hg : g o <;> cases hf : f o <;> simp_all
  · intro h o ho hg
    have := h o ho
    cases hf : f o <;> simp_all
theorem touch_ref (f g : Nat → Bool) : touch f g = decide (0 < (ofL fun o => f o && g o).length) := by
  rw [Bool.eq_iff_iff, touch_iff, decide_eq_true_eq, Nat.pos_iff_ne_zero, Ne, ofL_nil]
  constructor
  · rintro ⟨o, ho, h1, h2⟩ h
    have := h o ho
    simp_all
  · intro h
    refine Classical.byContradiction fun hn => h fun o ho => ?_
    cases hf : f o <;> cases hg : g o <;> simp
    exact hn ⟨o, ho, hf, hg⟩

end Sp
end Go.Proofs.Ytbpgofgdlikedaa
