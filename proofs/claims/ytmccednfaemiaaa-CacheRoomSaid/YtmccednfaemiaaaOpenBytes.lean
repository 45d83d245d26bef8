/-
  A slice of bytes as an argument, opened as a list of bytes; what a bound on the bulk of all that is read gives.
-/
import Derived.Test.YtmccednfaemiaaaOpen
import Derived.Test.YtmccednfaemiaaaByPlain
namespace Go.Proofs.Ytmccednfaemiaaa
open Go.ChangeShapes Go.WideShapes Go.RowKit Go.Deep

section
variable {H : Type} {enc : TypeId × Value → H} {P : Program} {w : World}
/-- A slice of bytes. -/
theorem open_bytes {r : Reach} {b0 : Nat} {t e : TypeId} {v : Value} {d : DataW H} {p : List MemPlace}
    (ht : P.underlying t = some (.slice e)) (hi : P.underlying e = some (.int .u8)) (hC : P.cellsOf e = 1)
    (hv : Value.okWide P w r b0 t v) (h : DataW.Trod enc P w 0 (fun _ => true) true t v d p) :
    ∃ (A : Option Addr) (cap : Nat) (l : List Int), v = .slice A l.length cap ∧ OneB w A cap l ∧
      ((d = .nil ∧ l.length = 0 ∧ cap = 0) ∨ ∃ elems spare, d = .slice elems spare ∧ elems.length = l.length ∧ elems.length + spare.length = cap) := by
  have := open_list (0 : Int) (fun n => [Value.int .u8 n]) isB (size := 1) (fun _ => rfl) ht hC (by decide)
    (fun fuel cs x hx => by
      obtain ⟨a, e0, rfl, wa⟩ := DataW.trod_int hi hx
      refine ⟨a, e0, ?_⟩
      have hb : IntKind.u8.min ≤ a ∧ a ≤ IntKind.u8.max := by simpa [Lit.wf] using wa
      have e1 : IntKind.u8.min = 0 := by decide
      have e2 : IntKind.u8.max = 255 := by decide
      rw [e1, e2] at hb
      exact ⟨hb.1, by omega⟩) hv h
  obtain ⟨A, cap, l, h1, h2, h3, h4, h5, h6, h7⟩ := this
  have hfl : ∀ l : List Int, l.flatMap (fun n => [Value.int .u8 n]) = bCells l := fun l => by
    induction l with
    | nil => rfl
    | cons s r ih =>
      rw [List.flatMap_cons, ih]
      rfl
  rw [hfl] at h5
  exact ⟨A, cap, l, h1, ⟨h2, h3, h4, h5, h6⟩, h7⟩
end

end Go.Proofs.Ytmccednfaemiaaa
