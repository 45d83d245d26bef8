/-
  What a round of a loop over a function keeps, where the function lays cells of its own while it goes: all cells but those that the caller laid between its own beginning and the call. And the places of a formed list, one behind the other. Nothing of the program is imported.
-/
import Derived.Test.YtnnmcnbpnfegpaaRounds
import Derived.Test.YtnnmcnbpnfegpaaSpWalkPlain
namespace Go.Proofs.Ytnnmcnbpnfegpaa
open Go.RowKit

/-- All cells stay, but in the blocks from n₀ up to B. -/
def KeepC (n₀ B : Nat) (W W' : World) : Prop := W.heap.size ≤ W'.heap.size ∧ ∀ k o, W.heap[k]? = some o → o.isCells = true → (k < n₀ ∨ B ≤ k) → W'.heap[k]? = some o
section
variable {n₀ B : Nat} {W W' : World}
theorem KeepC.refl (n₀ B : Nat) (W : World) : KeepC n₀ B W W := ⟨Nat.le_refl _, fun _ _ h _ _ => h⟩
theorem KeepC.trans {X Y Z : World} (h : KeepC n₀ B X Y) (k : KeepC n₀ B Y Z) : KeepC n₀ B X Z := ⟨Nat.le_trans h.1 k.1, fun i o h1 h2 h3 => k.2 i o (h.2 i o h1 h2 h3) h2 h3⟩
theorem KeepC.below (h : Below W.heap.size W W') : KeepC n₀ B W W' := ⟨h.size, fun i _ h1 _ _ => (h.block i (Array.getElem?_eq_some_iff.1 h1).1).trans h1⟩
theorem KeepC.set (W : World) (a : Addr) (v : Value) (h1 : n₀ ≤ a.block) (h2 : a.block < B) : KeepC n₀ B W (W.setCell a v) :=
  ⟨(KeepsOthers.setCell W a v).size, fun i _ hi _ h3 => (Below.heap_setCell W a v i (by omega)).trans hi⟩
theorem KeepC.mark (W : World) (l : Nat) (o o' : Obj) (h : W.heap[l]? = some o) (ho : o.isCells = false) : KeepC n₀ B W (W.putObj l o') :=
  ⟨by simp, fun i u hi hu _ => by
    by_cases e : l = i
    · subst e
      rw [h] at hi
      cases hi
      rw [ho] at hu
      cases hu
    · exact (World.putObj_heap_other (fun h => e h.symm)).trans hi⟩
theorem KeepC.cell (h : KeepC n₀ B W W') {a : Addr} {v : Value} (hc : W.cell? a = some v) (ha : a.block < n₀ ∨ B ≤ a.block) : W'.cell? a = some v := by
  obtain ⟨o, ho, hoc⟩ := cells_of_cell hc
  exact (World.cell?_of_block ((h.2 _ _ ho hoc ha).trans ho.symm)).trans hc
end

/-- What a round is told: an object. -/
def told1 (x : Int) : Array Value := #[.int .i64 x]
def tellO (x : Fin 256) : Array Value := #[.int .i64 (x.val : Int)]

namespace Sp
theorem good_sorted {l : List (Int × Int)} (h : good 256 l) (i : Nat) : ∀ j, i < j → j < l.length → (l.getD i (0, 0)).2 + 1 < (l.getD j (0, 0)).1
  | 0, h1, _ => by omega
  | j + 1, h1, h2 => by
    have h3 : (l.getD j (0, 0)).2 + 1 < (l.getD (j + 1) (0, 0)).1 := (h (j + 1) h2).2.2.2 (by omega)
    rcases Nat.lt_or_ge i j with h4 | h4
    · have := good_sorted h i j h4 (by omega)
      have := (h j (by omega)).2.1
      omega
    · rw [show i = j from by omega]
      exact h3
theorem inL_at (l : List (Int × Int)) (o : Nat) : inL l o = true ↔ ∃ j, j < l.length ∧ (l.getD j (0, 0)).1 ≤ (o : Int) ∧ (o : Int) ≤ (l.getD j (0, 0)).2 := by
  rw [inL_iff]
  constructor
  · rintro ⟨s, h1, h2⟩
    obtain ⟨j, hj, rfl⟩ := List.getElem_of_mem h1
    exact ⟨j, hj, by rw [List.getD_eq_getElem?_getD, List.getElem?_eq_getElem hj]; exact h2⟩
  · rintro ⟨j, hj, h2⟩
    rw [List.getD_eq_getElem?_getD, List.getElem?_eq_getElem hj, Option.getD_some] at h2
    exact ⟨_, List.getElem_mem hj, h2⟩
/-- Where the first k spans of a formed list end. -/
def endTo (l : List (Int × Int)) : Nat → Nat
  | 0 => 0
  | k + 1 => ((l.getD k (0, 0)).2 + 1).toNat
theorem endTo_bd (f : Nat → Bool) : ∀ k, k ≤ (ofL f).length → endTo (ofL f) k ≤ 256
  | 0, _ => Nat.zero_le _
  | k + 1, h => by
    have := (good_ofL f k h).2.2.1
    show ((((ofL f)).getD k (0, 0)).2 + 1).toNat ≤ 256
    omega
theorem span_in (f : Nat → Bool) (k : Nat) (hk : k < (ofL f).length) (p : Nat) (h1 : ((ofL f).getD k (0, 0)).1 ≤ (p : Int)) (h2 : (p : Int) ≤ ((ofL f).getD k (0, 0)).2) : f p = true := by
  have h3 := (good_ofL f k hk).2.2.1
  rw [← inL_ofL f p (by omega)]
  exact (inL_at _ _).2 ⟨k, hk, h1, h2⟩
theorem gap_out (f : Nat → Bool) (k : Nat) (p : Nat) (hp : p < 256) (h1 : endTo (ofL f) k ≤ p) (h2 : k < (ofL f).length → (p : Int) < ((ofL f).getD k (0, 0)).1) (hk : k ≤ (ofL f).length) : f p = false := by
  rcases two (f p) with h | h
  · rw [← inL_ofL f p hp] at h
    obtain ⟨j, hj, q1, q2⟩ := (inL_at _ _).1 h
    rcases Nat.lt_or_ge j k with h3 | h3
    · obtain ⟨m, rfl⟩ : ∃ m, k = m + 1 := ⟨k - 1, by omega⟩
      have h4 : (((ofL f)).getD m (0, 0)).2 + 1 ≤ (p : Int) := by
        have : ((((ofL f)).getD m (0, 0)).2 + 1).toNat ≤ p := h1
        omega
      rcases Nat.lt_or_ge j m with h5 | h5
      · have := good_sorted (good_ofL f) j m h5 (by omega)
        have := (good_ofL f m (by omega)).2.1
        omega
      · rw [show j = m from by omega] at q2
        omega
    · have h4 := h2 (by omega)
      rcases Nat.lt_or_ge k j with h5 | h5
      · have := good_sorted (good_ofL f) k j h5 hj
        have := (good_ofL f k (by omega)).2.1
        omega
      · rw [show j = k from by omega] at q1
        omega
  · exact h
/-- What has come when the objects up to k are over. -/
def comesO {α : Type} (g : Nat → α) (f : Nat → Bool) : Nat → List α
  | 0 => []
  | k + 1 => comesO g f k ++ (if f k = true then [g k] else [])
section
variable {α : Type} (g : Nat → α) (f : Nat → Bool)
theorem comesO_yes (k : Nat) (h : f k = true) : comesO g f (k + 1) = comesO g f k ++ [g k] := by rw [comesO, if_pos h]
theorem comesO_no (k : Nat) (h : f k = false) : comesO g f (k + 1) = comesO g f k := by rw [comesO, if_neg (by rw [h]; simp), List.append_nil]
theorem comesO_short : ∀ k, (comesO g f k).length ≤ k
  | 0 => Nat.le_refl _
  | k + 1 => by
    have := comesO_short k
    unfold comesO
    split <;> simp <;> omega
theorem comesO_pre (k : Nat) : ∀ m, k ≤ m → comesO g f k <+: comesO g f m
  | 0, h => by rw [Nat.le_zero.1 h]; exact List.prefix_rfl
  | m + 1, h => by
    rcases Nat.lt_or_ge m k with h1 | h1
    · rw [show k = m + 1 from by omega]; exact List.prefix_rfl
    · exact (comesO_pre k m h1).trans ⟨_, rfl⟩
theorem comesO_gap (m : Nat) : ∀ n, m ≤ n → (∀ p, m ≤ p → p < n → f p = false) → comesO g f n = comesO g f m
  | 0, h, _ => by rw [Nat.le_zero.1 h]
  | n + 1, h, hf => by
    rcases Nat.lt_or_ge n m with h1 | h1
    · rw [show m = n + 1 from by omega]
    · rw [comesO_no g f n (hf n h1 (by omega)), comesO_gap m n h1 (fun p h2 h3 => hf p h2 (by omega))]
theorem comesO_start (k : Nat) (hk : k < (ofL f).length) (o : Nat) (ho : (o : Int) = ((ofL f).getD k (0, 0)).1) : comesO g f o = comesO g f (endTo (ofL f) k) := by
  obtain ⟨g1, g2, g3, g4⟩ := good_ofL f k hk
  refine comesO_gap g f _ o ?_ fun p h1 h2 => gap_out f k p (by omega) h1 (fun _ => by omega) (by omega)
  cases k with
  | zero => exact Nat.zero_le _
  | succ m =>
    have h3 : ((ofL f).getD m (0, 0)).2 + 1 < ((ofL f).getD (m + 1) (0, 0)).1 := g4 (by omega)
    show ((((ofL f)).getD m (0, 0)).2 + 1).toNat ≤ o
    omega
theorem comesO_step (k : Nat) (hk : k < (ofL f).length) (o : Nat) (h1 : ((ofL f).getD k (0, 0)).1 ≤ (o : Int)) (h2 : (o : Int) ≤ ((ofL f).getD k (0, 0)).2) : comesO g f (o + 1) = comesO g f o ++ [g o] := comesO_yes g f o (span_in f k hk o h1 h2)
theorem comesO_end : comesO g f (endTo (ofL f) (ofL f).length) = comesO g f 256 :=
  (comesO_gap g f _ 256 (endTo_bd f _ (Nat.le_refl _)) fun p h1 h2 => gap_out f _ p h2 h1 (fun h => absurd h (Nat.lt_irrefl _)) (Nat.le_refl _)).symm
end
theorem comesO_obTo (f : Nat → Bool) : ∀ k, comesO (fun k => (k : Int)) f k = obTo f k
  | 0 => rfl
  | k + 1 => by rw [comesO, obTo, comesO_obTo f k]
theorem comesO_obL (f : Nat → Bool) : comesO (fun k => (k : Int)) f 256 = obL f := comesO_obTo f 256
/-- Object k, as one of 256. -/
def objF (k : Nat) : Fin 256 := ⟨k % 256, Nat.mod_lt _ (by omega)⟩
theorem objF_val {k : Nat} (h : k < 256) : (objF k).val = k := Nat.mod_eq_of_lt h
theorem comesO_mem (f : Nat → Bool) (i : Fin 256) : ∀ k, k ≤ 256 → (i ∈ comesO objF f k ↔ i.val < k ∧ f i.val = true)
  | 0, _ => by simp [comesO]
  | k + 1, h => by
    have ih := comesO_mem f i k (by omega)
    have hv := objF_val (k := k) (by omega)
    rw [comesO, List.mem_append, ih]
    constructor
    · rintro (⟨h1, h2⟩ | h1)
      · exact ⟨by omega, h2⟩
      · split at h1
        · rename_i hp
          rw [List.mem_singleton] at h1
          rw [h1, hv]
          exact ⟨by omega, hp⟩
        · cases h1
    · rintro ⟨h1, h2⟩
      rcases Nat.lt_or_ge i.val k with h3 | h3
      · exact .inl ⟨h3, h2⟩
      · have h4 : i.val = k := by omega
        rw [h4] at h2
        rw [if_pos h2]
        exact .inr (List.mem_singleton.2 (Fin.ext (by rw [hv]; exact h4)))
/-- Is object j among those that have come? -/
def hasF (pre : List (Fin 256)) (j : Nat) : Bool := pre.any fun i => decide (i.val = j)
theorem hasF_snoc (pre : List (Fin 256)) (x : Fin 256) (j : Nat) : hasF (pre ++ [x]) j = (hasF pre j || decide (x.val = j)) := by
  unfold hasF
  rw [List.any_append]
  simp
theorem hasF_all (f : Nat → Bool) (j : Nat) (hj : j < 256) : hasF (comesO objF f 256) j = f j := by
  rw [Bool.eq_iff_iff]
  unfold hasF
  rw [List.any_eq_true]
  constructor
  · rintro ⟨i, h1, h2⟩
    have h3 := ((comesO_mem f i 256 (Nat.le_refl _)).1 h1).2
    rw [of_decide_eq_true h2] at h3
    exact h3
  · intro h
    exact ⟨⟨j, hj⟩, (comesO_mem f ⟨j, hj⟩ 256 (Nat.le_refl _)).2 ⟨hj, h⟩, decide_eq_true rfl⟩
end Sp

end Go.Proofs.Ytnnmcnbpnfegpaa
