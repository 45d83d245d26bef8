/-
  What a bound on the bulk of all that is read gives: how long each slice is.
-/
import Derived.Test.YtobgbaejdamecaaDoorRows
namespace Go.Proofs.YtobgbaejdamecaaDoor

theorem bulk_one {H : Type} (d : DataW H) : 1 ≤ Rows.uptoBulk d := by
  cases d with
  | lit l => cases l <;> simp [Rows.uptoBulk]
  | nil => simp [Rows.uptoBulk]
  | ptr d => simp [Rows.uptoBulk]
  | slice elems spare => simp [Rows.uptoBulk]
  | agg parts => simp [Rows.uptoBulk]
  | iface t d => simp [Rows.uptoBulk]
  | map entries => simp [Rows.uptoBulk]
  | held h => simp [Rows.uptoBulk]
theorem bulk_length {H : Type} (l : List (DataW H)) : l.length ≤ Rows.uptoBulkAll l := by
  induction l with
  | nil => simp [Rows.uptoBulkAll]
  | cons x r ih =>
    have := bulk_one x
    simp only [Rows.uptoBulkAll, List.length_cons]
    omega
theorem bulk_slice {H : Type} {d : DataW H} {n cap : Nat} (h : (d = .nil ∧ n = 0 ∧ cap = 0) ∨ ∃ elems spare, d = .slice elems spare ∧ elems.length = n ∧ elems.length + spare.length = cap) : n ≤ Rows.uptoBulk d := by
  rcases h with ⟨_, h, _⟩ | ⟨elems, spare, rfl, h1, _⟩
  · omega
  · have h2 := bulk_length elems
    simp only [Rows.uptoBulk]
    omega
theorem bulk_all {H : Type} {l : List (DataW H)} (h : Rows.uptoSmall H l = true) : Rows.uptoBulkAll l ≤ 1048576 := of_decide_eq_true h
theorem bulk_cons {H : Type} (d : DataW H) (l : List (DataW H)) : Rows.uptoBulkAll (d :: l) = Rows.uptoBulk d + Rows.uptoBulkAll l := by simp only [Rows.uptoBulkAll]

end Go.Proofs.YtobgbaejdamecaaDoor
