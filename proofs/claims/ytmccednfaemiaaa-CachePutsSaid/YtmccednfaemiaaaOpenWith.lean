/-
  A slice as an argument, opened: elements of any make, with something known of each one and of its datum.
-/
import Derived.Test.YtmccednfaemiaaaOpen
import Derived.Lib.SmallJoins
namespace Go.Proofs.Ytmccednfaemiaaa
open Go.ChangeShapes Go.WideShapes Go.RowKit Go.Deep

set_option maxRecDepth 100000
theorem list3 {cs : List Value} (h : cs.length = 3) : ∃ a0 a1 a2, cs = [a0, a1, a2] := by
  match cs, h with
  | [a0, a1, a2], _ => exact ⟨a0, a1, a2, rfl⟩
theorem list2 {cs : List Value} (h : cs.length = 2) : ∃ a0 a1, cs = [a0, a1] := by
  match cs, h with
  | [a0, a1], _ => exact ⟨a0, a1, rfl⟩

section
variable {H : Type} {enc : TypeId × Value → H} {w : World}
/-- The datum of a list of k things, of each of which something is known. -/
def LenG (d : DataW H) (k : Nat) : Prop := k = 0 ∨ ∃ elems spare, d = .slice elems spare ∧ elems.length = k
/-- A slice whose elements' cells are known by 'f', at its own cell; and something of each element and of its datum. -/
theorem open_list_with {P : Program} {α : Type} (z : α) (f : α → List Value) (good : α → DataW H → Prop) {size : Nat} (hf : ∀ a, (f a).length = size) {t e : TypeId} {fuel0 : Nat} {cs0 : List Value} {y : DataW H × List MemPlace}
    (ht : P.underlying t = some (.slice e)) (hC : P.cellsOf e = size) (hsz : 0 < size)
    (helem : ∀ (fuel : Nat) (cs : List Value) (x : DataW H × List MemPlace), DataW.trod enc P w 0 (fun _ => true) true fuel e cs = some x → ∃ a, cs = f a ∧ good a x.1)
    (hfu : DataW.trod enc P w 0 (fun _ => true) true fuel0 t cs0 = some y) :
    ∃ (A : Option Addr) (cap : Nat) (l : List α), cs0 = [.slice A l.length cap] ∧ l.length ≤ cap ∧ cap ≤ maxLen ∧ (A = none → l.length = 0 ∧ cap = 0) ∧ Lies w A (l.flatMap f) ∧
      (l = [] ∨ ∃ elems spare, y.1 = .slice elems spare ∧ elems.length = l.length ∧ ∀ a ∈ l, ∃ d ∈ elems, good a d) := by
  rcases open_slice ht hfu with ⟨hcs, hx⟩ | ⟨a, len, cap, m, n, D, Pl, hcs, _, hl, hm, hmm, hx, hi⟩
  · subst hcs hx
    exact ⟨none, 0, [], rfl, Nat.le_refl _, Nat.zero_le _, fun _ => ⟨rfl, rfl⟩, Lies.nil, .inl rfl⟩
  · simp at hmm
    subst hmm
    obtain ⟨g, hg⟩ := pick (n := len) (p := fun i s => good s (D i) ∧ ∀ j, j < size → w.cell? (a.add (i * size + j)) = (f s)[j]?) z (fun i hi' => by
      obtain ⟨cs', hc, ht'⟩ := hi i (by omega)
      rw [hC] at hc
      obtain ⟨s, rfl, hs⟩ := helem _ _ _ ht'
      obtain ⟨_, _, hcell⟩ := World.cells?_some hc
      refine ⟨s, hs, fun j hj => ?_⟩
      rw [← hcell j hj, Go.Deep.add_add])
    refine ⟨some a, m, (List.range len).map g, by simpa using hcs, by simpa using hl, hm, (fun h => by cases h), (fun hne => ?_), .inr ⟨_, _, by rw [hx], by simp, fun s hs => ?_⟩⟩
    · have hpos : 0 < len := by
        rcases Nat.eq_zero_or_pos len with h0 | h0
        · subst h0; simp at hne
        · exact h0
      obtain ⟨b, off, spot⟩ := a
      have h00 := (hg 0 hpos).2 0 hsz
      have hspot : spot = none := by
        have hlen := hf (g 0)
        rw [List.getElem?_eq_getElem (by omega)] at h00
        simpa [Addr.add] using World.cell?_spot h00
      subst hspot
      refine ⟨b, off, rfl, fun j u hu => ?_⟩
      obtain ⟨i, r, s, h1, h2, h3, h4⟩ := flat_get f hf _ j u hu
      have hil : i < len := by
        have := (List.getElem?_eq_some_iff.1 h1).1
        simpa using this
      simp [hil] at h1
      subst h1
      rw [← Go.WideShapes.add_plain, h3, (hg i hil).2 r h2]
      exact h4
    · simp at hs
      obtain ⟨i, hil, rfl⟩ := hs
      exact ⟨D i, List.mem_map.2 ⟨i, List.mem_range.2 hil, rfl⟩, (hg i hil).1⟩
theorem dk_weightsAll (P : Program) (e : TypeId) : ∀ l : List (DataW H), DataW.weightsAll P e l = l.flatMap (DataW.weights P e)
  | [] => rfl
  | d :: r => by rw [List.flatMap_cons, ← dk_weightsAll P e r]; rfl
end
end Go.Proofs.Ytmccednfaemiaaa
