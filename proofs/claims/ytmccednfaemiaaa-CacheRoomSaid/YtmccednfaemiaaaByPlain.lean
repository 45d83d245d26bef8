/-
  Plain mathematics of bytes: lists of bytes in memory, as texts, and numbers laid in groups of seven bits. Nothing of the program is imported.
-/
import Derived.Test.YtmccednfaemiaaaOwnMore
import Derived.Laws.BytesArg
import Derived.Laws.StructEq
import Derived.MapKept
namespace Go.Proofs.Ytmccednfaemiaaa
open Go.RowKit

/-- A byte's number. -/
def isB (x : Int) : Prop := 0 ≤ x ∧ x < 256
def bCells (l : List Int) : List Value := l.map (Value.int .u8)
theorem bCells_length (l : List Int) : (bCells l).length = l.length := List.length_map _
theorem bCells_one (l : List Int) : ∀ u ∈ bCells l, u.oneCell' = true := by
  intro u hu
  obtain ⟨x, _, rfl⟩ := List.mem_map.1 hu
  rfl
theorem bCells_append (l r : List Int) : bCells (l ++ r) = bCells l ++ bCells r := List.map_append
theorem bCells_get (l : List Int) (k : Nat) (hk : k < l.length) : (bCells l)[k]? = some (.int .u8 (l.getD k 0)) := by
  unfold bCells
  rw [List.getElem?_map, List.getElem?_eq_getElem hk, List.getD_eq_getElem?_getD, List.getElem?_eq_getElem hk]
  rfl
theorem bCells_nil {l : List Int} : bCells l = [] ↔ l = [] := by unfold bCells; exact List.map_eq_nil_iff

/-- A list of bytes by value. -/
structure OneB (w : World) (A : Option Addr) (c : Nat) (l : List Int) : Prop where
  le : l.length ≤ c
  cap : c ≤ maxLen
  noA : A = none → l.length = 0 ∧ c = 0
  lies : Lies w A (bCells l)
  byte : ∀ x ∈ l, isB x
section
variable {w w' : World} {A : Option Addr} {c : Nat} {l : List Int}
theorem OneB.later (h : OneB w A c l) (hb : Below w.heap.size w w') : OneB w' A c l := ⟨h.le, h.cap, h.noA, h.lies.later hb, h.byte⟩
theorem OneB.len (h : OneB w A c l) : l.length ≤ 9223372036854775807 := by
  have h1 := h.le
  have h2 := h.cap
  unfold maxLen at h2
  omega
theorem OneB.of_own {base : Nat} {e : TypeId} {v : Value} (h : w.ownsRow base e 1 v l.length (bCells l)) (hb : ∀ x ∈ l, isB x) : ∃ A c, v = .slice A l.length c ∧ OneB w A c l := by
  obtain ⟨A, c, h1, h2, h3, h4, h5⟩ := own_form h
  exact ⟨A, c, h1, ⟨h2, h3, h4, h5, hb⟩⟩
/-- The cells of one of them. -/
theorem OneB.at (h : OneB w A c l) (hne : l ≠ []) : ∃ b off, A = some ⟨b, off, none⟩ ∧ ∀ k, k < l.length → w.cell? ⟨b, off + k, none⟩ = some (.int .u8 (l.getD k 0)) := by
  obtain ⟨b, off, hA, hc⟩ := h.lies (fun e => hne (bCells_nil.1 e))
  exact ⟨b, off, hA, fun k hk => hc _ _ (bCells_get l k hk)⟩

/-- As a text. -/
theorem OneB.text {P : Program} (h : OneB w A c l) {src e dst : TypeId} (hs : P.underlying src = some (.slice e)) (he : P.underlying e = some (.int .u8)) (hd : P.underlying dst = some .string) :
    (convert src dst (.slice A l.length c)).run P w = .ok (.string (strOfNums l)) w := by
  by_cases hne : l = []
  · subst hne
    cases A with
    | none =>
      rw [run_convert_bytes_nil w src e hs he _ _ dst hd]
      rfl
    | some a =>
      rw [run_convert_bytes_string w src dst e _ _ _ hs he hd, run_bytesToString w a ([] : List Int).length c [] (by first | rfl | (simp [loadCells]; rfl))]
      rfl
  · obtain ⟨b, off, rfl, hc⟩ := h.at hne
    exact run_convert_bytes_arg w src e hs he b off l.length c l rfl hc dst hd
end
theorem str_inj {l r : List Int} (hl : ∀ x ∈ l, isB x) (hr : ∀ x ∈ r, isB x) (h : strOfNums l = strOfNums r) : l = r := by
  have h1 : (l.map fun n => UInt8.ofNat n.toNat) = r.map fun n => UInt8.ofNat n.toNat := by
    have := congrArg (fun s : ByteArray => s.data.toList) h
    simpa [strOfNums_data] using this
  have back : ∀ m : List Int, (∀ x ∈ m, isB x) → (m.map fun n => UInt8.ofNat n.toNat).map (fun u : UInt8 => (u.toNat : Int)) = m := fun m hm => by
    rw [List.map_map]
    refine (List.map_congr_left fun x hx => ?_).trans (List.map_id m)
    have hb := hm x hx
    show ((UInt8.ofNat x.toNat).toNat : Int) = x
    rw [UInt8.toNat_ofNat']
    unfold isB at hb
    omega
  rw [← back l hl, ← back r hr, h1]
theorem str_eq {l r : List Int} (hl : ∀ x ∈ l, isB x) (hr : ∀ x ∈ r, isB x) : ((strOfNums l).toList == (strOfNums r).toList) = decide (l = r) := by
  rw [← beq_toListBytes, Bool.eq_iff_iff, decide_eq_true_eq]
  exact ⟨fun h => str_inj hl hr ((MapKept.bytes_beq _ _).1 h), fun h => by rw [h]; exact (MapKept.bytes_beq _ _).2 rfl⟩

namespace Pk
/-- A number's bytes: groups of seven bits, the lowest first. -/
def nb : Nat → Nat → List Int
  | 0, n => [(n : Int)]
  | f + 1, n => if n < 128 then [(n : Int)] else ((n % 128 + 128 : Nat) : Int) :: nb f (n / 128)
def bytesOf (n : Nat) : List Int := nb 9 n
theorem nb_byte : ∀ f n, n < 128 ^ (f + 1) → ∀ x ∈ nb f n, isB x
  | 0, n, h, x, hx => by
    simp [nb] at hx
    subst hx
    unfold isB
    simp at h
    omega
  | f + 1, n, h, x, hx => by
    unfold nb at hx
    split at hx
    · simp at hx
      subst hx
      unfold isB
      omega
    · rcases List.mem_cons.1 hx with rfl | hx
      · unfold isB
        omega
      · refine nb_byte f (n / 128) ?_ x hx
        rw [Nat.div_lt_iff_lt_mul (by omega)]
        rw [Nat.pow_succ] at h
        exact h
theorem nb_len : ∀ f n, 1 ≤ (nb f n).length ∧ (nb f n).length ≤ f + 1
  | 0, n => by simp [nb]
  | f + 1, n => by
    have h := nb_len f (n / 128)
    unfold nb
    split
    · simp
    · simp
      omega
/-- What bytes are worth, the lowest first. -/
def val : List Int → Int
  | [] => 0
  | b :: r => val r * 128 + b % 128
theorem val_nb : ∀ f n, n < 128 ^ (f + 1) → val (nb f n) = (n : Int)
  | 0, n, h => by
    simp at h
    show (0 : Int) * 128 + (n : Int) % 128 = n
    omega
  | f + 1, n, h => by
    unfold nb
    split
    · show (0 : Int) * 128 + (n : Int) % 128 = n
      omega
    · have hd : n / 128 < 128 ^ (f + 1) := by
        rw [Nat.div_lt_iff_lt_mul (by omega)]
        rw [Nat.pow_succ] at h
        exact h
      show val (nb f (n / 128)) * 128 + ((n % 128 + 128 : Nat) : Int) % 128 = n
      rw [val_nb f (n / 128) hd]
      omega
/-- How many of the first k bytes have the bit 128, up to the first one without it. -/
def lead : Nat → List Int → Nat
  | 0, _ => 0
  | _, [] => 0
  | k + 1, b :: r => if 128 ≤ b then lead k r + 1 else 0
/-- The number that bytes begin with, how many bytes it has, the error's number. -/
def num (l : List Int) : Int × Int × Int :=
  if lead 9 l = 9 then (0, 0, 4)
  else if lead 9 l = l.length then (0, 0, 5)
  else if l.getD (lead 9 l) 0 = 0 ∧ 0 < lead 9 l then (0, 0, 4)
  else (val (l.take (lead 9 l + 1)), (lead 9 l : Int) + 1, 0)
theorem lead_le : ∀ k l, lead k l ≤ k ∧ lead k l ≤ l.length
  | 0, l => ⟨Nat.le_refl _, Nat.zero_le _⟩
  | k + 1, [] => ⟨Nat.zero_le _, Nat.le_refl _⟩
  | k + 1, b :: r => by
    have h := lead_le k r
    unfold lead
    split
    · simp
      omega
    · simp
theorem lead_high : ∀ k l j, j < lead k l → 128 ≤ l.getD j 0
  | 0, l, j, h => by simp [lead] at h
  | k + 1, [], j, h => by simp [lead] at h
  | k + 1, b :: r, j, h => by
    unfold lead at h
    split at h
    · rename_i hb
      cases j with
      | zero => exact hb
      | succ m => exact lead_high k r m (by omega)
    · omega
theorem lead_low : ∀ k l, lead k l < k → lead k l < l.length → l.getD (lead k l) 0 < 128
  | 0, l, h, _ => by omega
  | k + 1, [], _, h2 => by simp [lead] at h2
  | k + 1, b :: r, h, h2 => by
    unfold lead at h h2 ⊢
    split at h
    · rename_i hb
      rw [if_pos hb] at h2 ⊢
      have := lead_low k r (by omega) (by simpa using h2)
      simpa using this
    · rename_i hb
      rw [if_neg hb]
      show b < 128
      omega
/-- Up to here, all have the bit; so the first one without it is not ahead of here. -/
theorem lead_at (k : Nat) (l : List Int) (i : Nat) (hi : i ≤ k) (hl : i ≤ l.length) (h : ∀ j, j < i → 128 ≤ l.getD j 0) : i ≤ lead k l := by
  rcases Nat.lt_or_ge (lead k l) i with hlt | hge
  · have h1 := lead_low k l (by omega) (by omega)
    have h2 := h _ hlt
    omega
  · exact hge
end Pk

end Go.Proofs.Ytmccednfaemiaaa
