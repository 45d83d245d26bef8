/-
  What telltaleref05's Laid answers; the row that bytes begin with; a part of a list of bytes.
-/
import Derived.Test.YtobgbaejdamecaaDoorByRef
namespace Go.Proofs.YtobgbaejdamecaaDoor
open Go.RowKit

namespace Pk
def laid (l : List Int) : List Int := bytesOf l.length ++ l
/-- The row that bytes begin with, how many bytes there are, the error's number. -/
def row (l : List Int) (most : Int) : List Int × Int × Int :=
  if most < 0 then ([], 0, 1)
  else if (num l).2.2 ≠ 0 then ([], 0, (num l).2.2)
  else if most < (num l).1 then ([], 0, 4)
  else if (l.length : Int) - (num l).2.1 < (num l).1 then ([], 0, 5)
  else ((l.drop (num l).2.1.toNat).take (num l).1.toNat, (num l).2.1 + (num l).1, 0)
theorem num_ways (l : List Int) (hl : ∀ x ∈ l, isB x) : (num l = (0, 0, 4) ∨ num l = (0, 0, 5)) ∨ ∃ v k : Nat, num l = ((v : Int), (k : Int), 0) ∧ 1 ≤ k ∧ k ≤ l.length ∧ k ≤ 9 ∧ v ≤ 9223372036854775807 := by
  have h1 := lead_le 9 l
  by_cases h9 : lead 9 l = 9
  · exact .inl (.inl (num_nine h9))
  · by_cases hs : lead 9 l = l.length
    · exact .inl (.inr (num_short hs (by omega)))
    · by_cases hz : l.getD (lead 9 l) 0 = 0 ∧ 0 < lead 9 l
      · exact .inl (.inl (num_zero (by omega) (by omega) hz.1 hz.2))
      · obtain ⟨v, e1, e2⟩ := val_nat (l.take (lead 9 l + 1)) (fun x hx => hl x (List.mem_of_mem_take hx))
        have hlen : (l.take (lead 9 l + 1)).length ≤ 9 := by rw [List.length_take]; omega
        have hp : 128 ^ (l.take (lead 9 l + 1)).length ≤ 128 ^ 9 := Nat.pow_le_pow_right (by omega) hlen
        have h128 : (128 : Nat) ^ 9 = 9223372036854775808 := by decide
        exact .inr ⟨v, lead 9 l + 1, by rw [num_yes (by omega) (by omega) hz, e1]; rfl, by omega, by omega, by omega, by omega⟩
end Pk

/-- A list of bytes and two numbers. -/
def AnsB3 (l : List Int) (k e : Int) (w : World) (en : Ending) (w' : World) : Prop := ∃ A c, en = .returned (.tuple #[.slice A l.length c, .int .i64 k, .int .i64 e]) ∧ OneB w' A c l ∧ Below w.heap.size w w'
theorem GivesB.one {l : List Int} {w w' : World} {e : Ending} (h : GivesB l w e w') (hb : ∀ x ∈ l, isB x) : ∃ A c, e = .returned (.slice A l.length c) ∧ OneB w' A c l ∧ Below w.heap.size w w' := by
  obtain ⟨v, rfl, ho, hbw⟩ := h
  obtain ⟨A, c, rfl, hO⟩ := OneB.of_own ho hb
  exact ⟨A, c, rfl, hO, hbw⟩
theorem OneB.nil (w : World) : OneB w none 0 [] := ⟨Nat.le_refl _, Nat.zero_le _, fun _ => ⟨rfl, rfl⟩, fun h => absurd rfl h, fun x hx => by cases hx⟩
theorem OneB.part {w : World} {b off c : Nat} {l : List Int} (h : OneB w (some ⟨b, off, none⟩) c l) (k n : Nat) (hk : k + n ≤ l.length) : OneB w (some ⟨b, off + k, none⟩) (c - k) ((l.drop k).take n) := by
  have hlen : ((l.drop k).take n).length = n := by rw [List.length_take, List.length_drop]; omega
  refine ⟨by rw [hlen]; have := h.le; omega, by have := h.cap; omega, (fun h => by cases h), fun hne => ?_, fun x hx => h.byte x (List.mem_of_mem_drop (List.mem_of_mem_take hx))⟩
  have hl : l ≠ [] := fun e => by subst e; simp [bCells] at hne
  obtain ⟨b', off', hA, hc⟩ := h.at hl
  injection hA with hA
  injection hA with hA1 hA2
  subst hA1 hA2
  refine ⟨b, off + k, rfl, fun j u hu => ?_⟩
  have hj : j < n := by
    have := (List.getElem?_eq_some_iff.1 hu).1
    rw [bCells_length, hlen] at this
    exact this
  rw [bCells_get _ j (by rw [hlen]; exact hj)] at hu
  cases hu
  rw [Nat.add_assoc, hc (k + j) (by omega)]
  congr 2
  rw [List.getD_eq_getElem?_getD, List.getD_eq_getElem?_getD, List.getElem?_take, if_pos hj, List.getElem?_drop]

theorem bytesOf_byte (n : Nat) (h : n ≤ 9223372036854775807) : ∀ x ∈ Pk.bytesOf n, isB x := Pk.nb_byte 9 n (Nat.lt_of_le_of_lt h (by decide))

end Go.Proofs.YtobgbaejdamecaaDoor
