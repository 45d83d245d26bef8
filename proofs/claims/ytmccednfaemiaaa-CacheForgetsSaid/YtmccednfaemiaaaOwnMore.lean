/-
  Rows of the call's own through later calls, and a row of rows. Nothing of the program is imported.
-/
import Derived.Test.YtmccednfaemiaaaVecMore
namespace Go.Proofs.Ytmccednfaemiaaa
open Go.RowKit

section
variable {w w' : World} {base size n : Nat} {e : TypeId} {v : Value} {xs : List Value}
theorem own_lt (h : w.ownsRow base e size v n xs) : ∀ k, v.ownBlock = some k → k < w.heap.size := by
  intro k hk
  rcases h.2 with ⟨rfl, _⟩ | ⟨g, cap, cur, rfl, _, hh, _⟩
  · simp [Value.ownBlock] at hk
  · simp [Value.ownBlock] at hk
    subst hk
    exact (Array.getElem?_eq_some_iff.1 hh).1
theorem own_stays (h : w.ownsRow base e size v n xs) (hs : ∀ k, v.ownBlock = some k → w'.heap[k]? = w.heap[k]?) : w'.ownsRow base e size v n xs := by
  obtain ⟨h0, h1⟩ := h
  refine ⟨h0, ?_⟩
  rcases h1 with h1 | ⟨g, cap, cur, hv, hg, hh, r⟩
  · exact .inl h1
  · refine .inr ⟨g, cap, cur, hv, hg, ?_, r⟩
    rw [hs g (by rw [hv]; rfl)]
    exact hh
theorem own_later (h : w.ownsRow base e size v n xs) (hb : Below w.heap.size w w') : w'.ownsRow base e size v n xs :=
  own_stays h (fun k hk => hb.block k (own_lt h k hk))
/-- Rows of different kinds lie in different blocks. -/
theorem own_apart {base' size' n' : Nat} {e' : TypeId} {v' : Value} {xs' : List Value} (h : w.ownsRow base e size v n xs) (h' : w.ownsRow base' e' size' v' n' xs') (hne : e ≠ e') : ∀ k, v.ownBlock = some k → some k ≠ v'.ownBlock := by
  intro k hk hk'
  rcases h.2 with ⟨rfl, _⟩ | ⟨g, cap, cur, rfl, _, hh, _⟩
  · simp [Value.ownBlock] at hk
  · rcases h'.2 with ⟨rfl, _⟩ | ⟨g', cap', cur', rfl, _, hh', _⟩
    · simp [Value.ownBlock] at hk'
    · simp [Value.ownBlock] at hk hk'
      subst hk
      subst hk'
      rw [hh] at hh'
      simp at hh'
      exact hne hh'.2
end

/-- The cells of a row of lists. -/
def rowCells : List (Option Addr × Nat) → List (List (Int × Int)) → List Value
  | [], _ => []
  | _ :: _, [] => []
  | x :: cs, l :: ls => .slice x.1 l.length x.2 :: rowCells cs ls
theorem rowCells_snoc : ∀ (cs : List (Option Addr × Nat)) (x : Option Addr × Nat) (ls : List (List (Int × Int))) (_ : cs.length < ls.length), rowCells (cs ++ [x]) ls = rowCells cs ls ++ [.slice x.1 (ls.getD cs.length []).length x.2]
  | [], x, [], h => by simp at h
  | [], x, l :: ls, _ => by simp [rowCells]
  | c :: cs, x, [], h => by simp at h
  | c :: cs, x, l :: ls, h => by
    have := rowCells_snoc cs x ls (by simpa using h)
    simp [rowCells, this]
theorem rowCells_get : ∀ (cs : List (Option Addr × Nat)) (ls : List (List (Int × Int))) (k : Nat), k < cs.length → k < ls.length → (rowCells cs ls)[k]? = some (.slice (cs.getD k (none, 0)).1 (ls.getD k []).length (cs.getD k (none, 0)).2)
  | [], _, k, h, _ => by simp at h
  | c :: cs, [], k, _, h => by simp at h
  | c :: cs, l :: ls, 0, _, _ => by simp [rowCells]
  | c :: cs, l :: ls, k + 1, h, h' => by
    have := rowCells_get cs ls k (by simpa using h) (by simpa using h')
    simpa [rowCells] using this
end Go.Proofs.Ytmccednfaemiaaa
