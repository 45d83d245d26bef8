/-
  What disks become, as plain mathematics. Nothing of the program is imported but the places' contracts.
-/
import Derived.Test.YtgjcpdcepmgafaaDkPlace
import Derived.Test.YtgjcpdcepmgafaaDkOnly
namespace Go.Proofs.Ytgjcpdcepmgafaa
open Go.RowKit

namespace Dk
def fnd (n : Int) (fs : List Fi) : Option Fi := fs.find? (fun f => decide (f.1 = n))
theorem low_of (n : Int) : ∀ L : List Fc, (L.map Fc.fi).Pairwise (fun a b => a.1 < b.1) → ∃ at_ th, Low L n at_ th
  | [], _ => ⟨0, false, Nat.le_refl _, (fun u x hu => by omega), (fun u x _ hx => by simp at hx), (fun h => by cases h), fun _ u x _ hx => by simp at hx⟩
  | f :: r, hp => by
    rw [List.map_cons, List.pairwise_cons] at hp
    obtain ⟨hf, hr⟩ := hp
    have hall : ∀ (u : Nat) (x : Fc), r[u]? = some x → f.num < x.num := fun u x hx => hf x.fi (List.mem_map.2 ⟨x, List.mem_of_getElem? hx, rfl⟩)
    by_cases h : f.num < n
    · obtain ⟨at_, th, h1, h2, h3, h4, h5⟩ := low_of n r hr
      refine ⟨at_ + 1, th, by simp; exact h1, fun u x hu hx => ?_, fun u x hu hx => ?_, fun ht => ?_, fun ht u x hu hx => ?_⟩
      · cases u with
        | zero => simp at hx; subst hx; exact h
        | succ u => exact h2 u x (by omega) (by simpa using hx)
      · cases u with
        | zero => omega
        | succ u => exact h3 u x (by omega) (by simpa using hx)
      · obtain ⟨x, hx, hn⟩ := h4 ht
        exact ⟨x, by simpa using hx, hn⟩
      · cases u with
        | zero => omega
        | succ u => exact h5 ht u x (by omega) (by simpa using hx)
    · refine ⟨0, decide (f.num = n), Nat.zero_le _, fun u x hu => by omega, fun u x _ hx => ?_, fun ht => ?_, fun ht u x _ hx => ?_⟩
      · cases u with
        | zero => simp at hx; subst hx; omega
        | succ u =>
          have := hall u x (by simpa using hx)
          omega
      · exact ⟨f, rfl, of_decide_eq_true ht⟩
      · have h0 := of_decide_eq_false ht
        cases u with
        | zero => simp at hx; subst hx; omega
        | succ u =>
          have := hall u x (by simpa using hx)
          omega
theorem fnd_none {n : Int} {L : List Fc} {at_ : Nat} (h : Low L n at_ false) : fnd n (L.map Fc.fi) = none ∧ Plc L n (-1) := by
  have hno : ∀ (t : Nat) (x : Fc), L[t]? = some x → x.num ≠ n := fun t x hx => by
    by_cases e : t < at_
    · have := h.lo t x e hx
      omega
    · have := h.not rfl t x (by omega) hx
      omega
  refine ⟨?_, .inl ⟨rfl, hno⟩⟩
  unfold fnd
  rw [List.find?_eq_none]
  intro f hf
  obtain ⟨x, hx, rfl⟩ := List.mem_map.1 hf
  obtain ⟨t, ht⟩ := List.getElem?_of_mem hx
  show ¬ decide (x.num = n) = true
  rw [decide_eq_true_eq]
  exact hno t x ht
theorem fnd_some {n : Int} {L : List Fc} {at_ : Nat} (h : Low L n at_ true) : ∃ x, L[at_]? = some x ∧ x.num = n ∧ fnd n (L.map Fc.fi) = some x.fi ∧ Plc L n (at_ : Int) := by
  obtain ⟨x, hx, hn⟩ := h.here rfl
  have hno : ∀ (u : Nat) (y : Fc), u < at_ → L[u]? = some y → y.num ≠ n := fun u y hu hy => by
    have := h.lo u y hu hy
    omega
  refine ⟨x, hx, hn, ?_, .inr ⟨at_, x, rfl, hx, hn, hno⟩⟩
  unfold fnd
  rw [List.find?_eq_some_iff_getElem]
  obtain ⟨h1, h2⟩ := List.getElem?_eq_some_iff.1 hx
  refine ⟨decide_eq_true (show x.fi.1 = n from hn), at_, by rw [List.length_map]; exact h1, by rw [List.getElem_map, h2], fun j hj => ?_⟩
  have := hno j L[j] hj (List.getElem?_eq_getElem (by omega))
  simpa [Fc.fi] using this
/-- The three ways. -/
theorem ways {room : Int} (n : Int) {L : List Fc} (h : fmd room (L.map Fc.fi) = true) : (∃ at_, Low L n at_ false ∧ fnd n (L.map Fc.fi) = none ∧ Plc L n (-1)) ∨ ∃ at_ x, Low L n at_ true ∧ L[at_]? = some x ∧ x.num = n ∧ fnd n (L.map Fc.fi) = some x.fi ∧ Plc L n (at_ : Int) := by
  obtain ⟨at_, th, hl⟩ := low_of n L (fmd_facts h).up
  cases th with
  | false =>
    obtain ⟨h1, h2⟩ := fnd_none hl
    exact .inl ⟨at_, hl, h1, h2⟩
  | true =>
    obtain ⟨x, h1, h2, h3, h4⟩ := fnd_some hl
    exact .inr ⟨at_, x, hl, h1, h2, h3, h4⟩
theorem len_le {room : Int} {L : List Fc} (h : fmd room (L.map Fc.fi) = true) : L.length ≤ 1048577 := by
  have := (fmd_facts h).len
  simpa using this
theorem fit {room : Int} {L : List Fc} (h : fmd room (L.map Fc.fi) = true) : Fit L := by
  have hF := fmd_facts h
  have hl := len_le h
  refine ⟨by omega, fun f hf => ?_⟩
  have := used_mem (List.mem_map.2 ⟨f, hf, rfl⟩ : f.fi ∈ L.map Fc.fi)
  have h1 := hF.use
  have h2 := hF.r1
  have h3 : ((f.fi).2.1.length : Int) = (f.l.length : Int) := rfl
  omega

/-- What each call answers: the room, the files, the error's number. -/
abbrev Ans3 := Int × List Fi × Int
def getR (room : Int) (fs : List Fi) (n : Int) : List Int × Int := if fmd room fs = true then (match fnd n fs with | none => ([], 16) | some f => (f.2.1, 0)) else ([], 1)
def cutR (room : Int) (fs : List Fi) (n k : Int) : Ans3 := if fmd room fs = true then (match fnd n fs with | none => (0, [], 16) | some f => if win k (f.2.1.length : Int) = true then (room, fs.map (cut1 n k.toNat), 0) else (0, [], 1)) else (0, [], 1)
def remR (room : Int) (fs : List Fi) (n : Int) : Ans3 := if fmd room fs = true then (match fnd n fs with | none => (0, [], 16) | some _ => (room, fs.filter (fun f => !decide (f.1 = n)), 0)) else (0, [], 1)
def synR (room : Int) (fs : List Fi) : Ans3 := if fmd room fs = true then (room, fs.map syn1, 0) else (0, [], 1)
/-- The files, with one of that number. -/
def ins (fs : List Fi) (n : Int) : List Fi := match fnd n fs with | none => fs.filter (fun f => decide (f.1 < n)) ++ (n, [], 0) :: fs.filter (fun f => decide (n < f.1)) | some _ => fs
def appR (room : Int) (fs : List Fi) (n : Int) (b : List Int) : Ans3 := if fmd room fs = true ∧ win n 1048576 = true then (if (b.length : Int) > room - used fs then (0, [], 7) else (room, (ins fs n).map (app1 n b), 0)) else (0, [], 1)
/-- The files behind a crash, and the place of the last one of which a byte was kept that was not sure. -/
def crs : Nat → List Fi → List Fi
  | _, [] => []
  | keep, f :: r => (f.1, f.2.1.take (f.2.2.toNat + min keep (f.2.1.length - f.2.2.toNat)), ((f.2.2.toNat + min keep (f.2.1.length - f.2.2.toNat) : Nat) : Int)) :: crs (keep - min keep (f.2.1.length - f.2.2.toNat)) r
def kpt : Nat → List Fi → Nat
  | keep, [] => keep
  | keep, f :: r => kpt (keep - min keep (f.2.1.length - f.2.2.toNat)) r
def lst : Nat → Nat → Option Nat → List Fi → Option Nat
  | _, _, o, [] => o
  | i, keep, o, f :: r => lst (i + 1) (keep - min keep (f.2.1.length - f.2.2.toNat)) (if 0 < min keep (f.2.1.length - f.2.2.toNat) then some i else o) r
end Dk

/-- A disk and an error are answered, in memory of the call's own. -/
def GivesDE (r : Dk.Ans3) (w : World) (e : Ending) (w' : World) : Prop :=
  ∃ v L, e = .returned (.tuple #[.agg #[.int .i64 r.1, v], .int .i64 r.2.2]) ∧ OwnD w' w.heap.size 43 5 v L ∧ L.map Fc.fi = r.2.1 ∧ Below w.heap.size w w'
theorem GivesDE.err {w w' : World} (k : Int) (hb : Below w.heap.size w w') : GivesDE (0, [], k) w (.returned (.tuple #[.agg #[.int .i64 0, .slice none 0 0], .int .i64 k])) w' := ⟨_, [], rfl, OwnD.nil _ _ _ _, rfl, hb⟩
end Go.Proofs.Ytgjcpdcepmgafaa
