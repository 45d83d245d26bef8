/-
  Answers: a value; a list of pairs of numbers, wherever it lies. Lists in blocks of one's own. Nothing of the program is imported.
-/
import Derived.Test.YtmccednfaemiaaaOwnMore
namespace Go.Proofs.Ytmccednfaemiaaa
open Go.RowKit

/-- A list is answered; what was there before is as it was. -/
def Ans (l : List (Int × Int)) (w : World) (e : Ending) (w' : World) : Prop := ∃ A c, e = .returned (.slice A l.length c) ∧ OneL w' A c l ∧ Below w.heap.size w w'
/-- A value is answered; what was there before is as it was. -/
def Says (v : Value) (w : World) (e : Ending) (w' : World) : Prop := e = .returned v ∧ Below w.heap.size w w'

theorem two_slots (w : World) (x y : Value) (t : TypeId) : Blk (w.alloc (.cells #[x, y] t)) w.heap.size t #[x, y] := Blk.new w t _

/-- Two lists in a block of two. -/
theorem rows_two {w : World} {g : Nat} {t : TypeId} {A B : Option Addr} {c d : Nat} {l r : List (Int × Int)} (hB : Blk w g t #[.slice A l.length c, .slice B r.length d]) (h1 : OneL w A c l) (h2 : OneL w B d r) : Rows w (some ⟨g, 0, none⟩) [l, r] := fun _ => ⟨g, 0, rfl, fun k hk => by
  have hk2 : k = 0 ∨ k = 1 := by simp at hk; omega
  rcases hk2 with rfl | rfl
  · exact ⟨A, c, hB.cell rfl, h1⟩
  · exact ⟨B, d, hB.cell rfl, h2⟩⟩
/-- One stamp in a block of its own. -/
theorem one_stamp {w : World} {g : Nat} {t : TypeId} {c n : Int} (hB : Blk w g t #[.int .i64 c, .int .i64 n]) : OneL w (some ⟨g, 0, none⟩) 1 [(c, n)] :=
  ⟨Nat.le_refl _, (by unfold maxLen; omega), (fun h => by cases h), fun _ => ⟨g, 0, rfl, fun j u hu => by
    rw [Nat.zero_add]
    exact hB.cell (by simpa [stCells] using hu)⟩⟩
/-- One list in a block of one. -/
theorem rows_one {w : World} {g : Nat} {t : TypeId} {A : Option Addr} {c : Nat} {l : List (Int × Int)} (hB : Blk w g t #[.slice A l.length c]) (h1 : OneL w A c l) : Rows w (some ⟨g, 0, none⟩) [l] := fun _ => ⟨g, 0, rfl, fun k hk => by
  have hk0 : k = 0 := by simp at hk; omega
  subst hk0
  exact ⟨A, c, hB.cell rfl, h1⟩⟩

end Go.Proofs.Ytmccednfaemiaaa
