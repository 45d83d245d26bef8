/-
  A slice argument, opened: whatever its elements are, if each element's cells are known by a way to write it out, the slice reads as a list of such elements. With it slices of stamps.
-/
import Derived.Test.YtmccednfaemiaaaLaw
import Derived.Test.YtmccednfaemiaaaSlices
import Derived.Deep.Slices
namespace Go.Proofs.Ytmccednfaemiaaa
open Go.ChangeShapes Go.WideShapes Go.RowKit Go.Deep

theorem pick {α : Type} (z : α) {n : Nat} {p : Nat → α → Prop} (h : ∀ i, i < n → ∃ s, p i s) : ∃ f : Nat → α, ∀ i, i < n → p i (f i) := by
  refine ⟨fun i => if hi : i < n then Classical.choose (h i hi) else z, fun i hi => ?_⟩
  simp only [hi, dite_true]
  exact Classical.choose_spec (h i hi)

theorem flat_get {α : Type} {size : Nat} (f : α → List Value) (hf : ∀ a, (f a).length = size) : ∀ (l : List α) (j : Nat) (u : Value), (l.flatMap f)[j]? = some u →
    ∃ i r a, l[i]? = some a ∧ r < size ∧ j = i * size + r ∧ (f a)[r]? = some u
  | [], j, u, h => by simp at h
  | a :: l, j, u, h => by
    rw [List.flatMap_cons] at h
    by_cases hj : j < size
    · rw [List.getElem?_append_left (by rw [hf]; exact hj)] at h
      exact ⟨0, j, a, rfl, hj, by omega, h⟩
    · rw [List.getElem?_append_right (by rw [hf]; omega), hf] at h
      obtain ⟨i, r, b, h1, h2, h3, h4⟩ := flat_get f hf l (j - size) u h
      refine ⟨i + 1, r, b, by simpa using h1, h2, ?_, h4⟩
      rw [Nat.add_mul]
      omega

section
variable {H : Type} {enc : TypeId × Value → H} {P : Program} {w : World}

/-- A slice whose elements' cells are known by 'f': it reads as a list. -/
theorem open_list {α : Type} (z : α) (f : α → List Value) (good : α → Prop) {size : Nat} (hf : ∀ a, (f a).length = size) {r : Reach} {b0 : Nat} {t e : TypeId} {v : Value} {d : DataW H} {p : List MemPlace}
    (ht : P.underlying t = some (.slice e)) (hC : P.cellsOf e = size) (hsz : 0 < size)
    (helem : ∀ (fuel : Nat) (cs : List Value) (x : DataW H × List MemPlace), DataW.trod enc P w 0 (fun _ => true) true fuel e cs = some x → ∃ a, cs = f a ∧ good a)
    (hv : Value.okWide P w r b0 t v) (h : DataW.Trod enc P w 0 (fun _ => true) true t v d p) :
    ∃ (A : Option Addr) (cap : Nat) (l : List α), v = .slice A l.length cap ∧ l.length ≤ cap ∧ cap ≤ maxLen ∧ (A = none → l.length = 0 ∧ cap = 0) ∧ Lies w A (l.flatMap f) ∧ (∀ a ∈ l, good a) ∧
      ((d = .nil ∧ l.length = 0 ∧ cap = 0) ∨ ∃ elems spare, d = .slice elems spare ∧ elems.length = l.length ∧ elems.length + spare.length = cap) := by
  obtain ⟨a0, len0, cap0, rfl⟩ := okWide_slice ht hv
  obtain ⟨fuel, hfu⟩ := h
  rcases open_slice ht hfu with ⟨hcs, hx⟩ | ⟨a, len, cap, m, n, D, Pl, hcs, _, hl, hm, hmm, hx, hi⟩
  · simp [Value.cells] at hcs hx
    obtain ⟨rfl, rfl, rfl⟩ := hcs
    exact ⟨none, 0, [], rfl, Nat.le_refl _, Nat.zero_le _, fun _ => ⟨rfl, rfl⟩, Lies.nil, by simp, .inl ⟨hx.1, rfl, rfl⟩⟩
  · simp [Value.cells] at hcs hx hmm
    obtain ⟨rfl, rfl, rfl⟩ := hcs
    subst hmm
    obtain ⟨g, hg⟩ := pick (n := len0) (p := fun i s => good s ∧ ∀ j, j < size → w.cell? (a.add (i * size + j)) = (f s)[j]?) z (fun i hi' => by
      obtain ⟨cs', hc, ht'⟩ := hi i (by omega)
      rw [hC] at hc
      obtain ⟨s, rfl, hs⟩ := helem _ _ _ ht'
      obtain ⟨_, _, hcell⟩ := World.cells?_some hc
      refine ⟨s, hs, fun j hj => ?_⟩
      rw [← hcell j hj, Go.Deep.add_add])
    refine ⟨some a, m, (List.range len0).map g, by simp, by simpa using hl, hm, (fun h => by cases h), (fun hne => ?_), ?_, .inr ⟨_, _, hx.1, by simp, by simp; omega⟩⟩
    · have hpos : 0 < len0 := by
        rcases Nat.eq_zero_or_pos len0 with h0 | h0
        · subst h0; simp at hne
        · exact h0
      obtain ⟨b, off, spot⟩ := a
      have h00 := (hg 0 hpos).2 0 hsz
      have hspot : spot = none := by
        have hlen := hf (g 0)
        rw [List.getElem?_eq_getElem (by omega)] at h00
        simpa [Addr.add] using World.cell?_spot h00
      subst hspot
      refine ⟨b, off, rfl, fun j u hu => ?_⟩
      obtain ⟨i, r, s, h1, h2, h3, h4⟩ := flat_get f hf _ j u hu
      have hil : i < len0 := by
        have := (List.getElem?_eq_some_iff.1 h1).1
        simpa using this
      simp [hil] at h1
      subst h1
      rw [← Go.WideShapes.add_plain, h3, (hg i hil).2 r h2]
      exact h4
    · intro s hs
      simp at hs
      obtain ⟨i, hil, rfl⟩ := hs
      exact (hg i hil).1

def stCell (s : Int × Int) : List Value := [.int .i64 s.1, .int .i64 s.2]
theorem stCells_flat (l : List (Int × Int)) : l.flatMap stCell = stCells l := by
  induction l with
  | nil => rfl
  | cons s r ih => simp [stCells, stCell, ih]

/-- A slice of stamps. -/
theorem open_stamps {r : Reach} {b0 : Nat} {t e ti : TypeId} {f0 f1 : Field} {v : Value} {d : DataW H} {p : List MemPlace}
    (ht : P.underlying t = some (.slice e)) (hs : P.underlying e = some (.struct #[f0, f1])) (hone : Deep.oneCellFields P #[f0, f1] = true) (hC : P.cellsOf e = 2) (hi0 : f0.type = ti) (hi1 : f1.type = ti) (hi : P.underlying ti = some (.int .i64))
    (hv : Value.okWide P w r b0 t v) (h : DataW.Trod enc P w 0 (fun _ => true) true t v d p) :
    ∃ (A : Option Addr) (cap : Nat) (l : List (Int × Int)), v = .slice A l.length cap ∧ l.length ≤ cap ∧ cap ≤ maxLen ∧ (A = none → l.length = 0 ∧ cap = 0) ∧ Lies w A (stCells l) ∧
      (∀ s ∈ l, -9223372036854775808 ≤ s.1 ∧ s.1 ≤ 9223372036854775807 ∧ -9223372036854775808 ≤ s.2 ∧ s.2 ≤ 9223372036854775807) ∧
      ((d = .nil ∧ l.length = 0 ∧ cap = 0) ∨ ∃ elems spare, d = .slice elems spare ∧ elems.length = l.length ∧ elems.length + spare.length = cap) := by
  have := open_list (0, 0) stCell (fun s => -9223372036854775808 ≤ s.1 ∧ s.1 ≤ 9223372036854775807 ∧ -9223372036854775808 ≤ s.2 ∧ s.2 ≤ 9223372036854775807) (size := 2) (fun _ => rfl) ht hC (by decide)
    (fun fuel cs x hx => by
      obtain ⟨c, n, rfl, _, h1, h2, h3, h4⟩ := stamp_cells hs hone hC hi0 hi1 hi hx
      exact ⟨(c, n), rfl, h1, h2, h3, h4⟩) hv h
  obtain ⟨A, cap, l, h1, h2, h3, h4, h5, h6, h7⟩ := this
  rw [stCells_flat] at h5
  exact ⟨A, cap, l, h1, h2, h3, h4, h5, h6, h7⟩

/-- A slice of whole numbers. -/
theorem open_nums {r : Reach} {b0 : Nat} {t e : TypeId} {v : Value} {d : DataW H} {p : List MemPlace}
    (ht : P.underlying t = some (.slice e)) (hi : P.underlying e = some (.int .i64)) (hC : P.cellsOf e = 1)
    (hv : Value.okWide P w r b0 t v) (h : DataW.Trod enc P w 0 (fun _ => true) true t v d p) :
    ∃ (A : Option Addr) (cap : Nat) (l : List Int), v = .slice A l.length cap ∧ l.length ≤ cap ∧ cap ≤ maxLen ∧ (A = none → l.length = 0 ∧ cap = 0) ∧ Lies w A (l.map (Value.int .i64)) ∧
      ((d = .nil ∧ l.length = 0 ∧ cap = 0) ∨ ∃ elems spare, d = .slice elems spare ∧ elems.length = l.length ∧ elems.length + spare.length = cap) := by
  have := open_list (0 : Int) (fun n => [Value.int .i64 n]) (fun _ => True) (size := 1) (fun _ => rfl) ht hC (by decide)
    (fun fuel cs x hx => by
      obtain ⟨a, e0, rfl, wa⟩ := DataW.trod_int hi hx
      exact ⟨a, e0, trivial⟩) hv h
  obtain ⟨A, cap, l, h1, h2, h3, h4, h5, h6, h7⟩ := this
  have hfl : ∀ l : List Int, l.flatMap (fun n => [Value.int .i64 n]) = l.map (Value.int .i64) := fun l => by
    induction l with
    | nil => rfl
    | cons s r ih => rw [List.flatMap_cons, ih]; rfl
  rw [hfl] at h5
  exact ⟨A, cap, l, h1, h2, h3, h4, h5, h7⟩
end

end Go.Proofs.Ytmccednfaemiaaa
