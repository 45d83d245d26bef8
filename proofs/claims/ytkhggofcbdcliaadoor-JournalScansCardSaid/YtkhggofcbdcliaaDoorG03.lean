/-
  Plain mathematics of bytes: lists of bytes in memory, as texts, and numbers laid in groups of seven bits. Nothing of the program is imported.
  A run of cells that lies unfrozen in a block of one's own: written anew cell by cell, cut, cleared. What a filter keeps while it goes. Nothing of the program is imported.
  A cell of a row of the call's own is written anew. Nothing of the program is imported.
  Answers: a value; a list of pairs of numbers, wherever it lies. Lists in blocks of one's own. Nothing of the program is imported.
-/
import Derived.Test.YtkhggofcbdcliaaDoorG02
import Derived.Laws.BytesArg
import Derived.Laws.StructEq
import Derived.MapKept
import Derived.Test.YtkhggofcbdcliaaDoorG01
import Derived.Laws.OwnMore
import Derived.Laws.IdiomCopy
import Derived.RangeFuncBox
import Derived.WalkSpells
import Derived.Laws.CopyOwn
namespace Go.Proofs.YtkhggofcbdcliaaDoor
open Go.RowKit

/-- A byte's number. -/
def isB (x : Int) : Prop := 0 ≤ x ∧ x < 256
def bCells (l : List Int) : List Value := l.map (Value.int .u8)
theorem bCells_length (l : List Int) : (bCells l).length = l.length := List.length_map _
theorem bCells_one (l : List Int) : ∀ u ∈ bCells l, u.oneCell' = true := by
  intro u hu
  obtain ⟨x, _, rfl⟩ := List.mem_map.1 hu
  rfl
theorem bCells_append (l r : List Int) : bCells (l ++ r) = bCells l ++ bCells r := List.map_append
theorem bCells_get (l : List Int) (k : Nat) (hk : k < l.length) : (bCells l)[k]? = some (.int .u8 (l.getD k 0)) := by
  unfold bCells
  rw [List.getElem?_map, List.getElem?_eq_getElem hk, List.getD_eq_getElem?_getD, List.getElem?_eq_getElem hk]
  rfl
theorem bCells_nil {l : List Int} : bCells l = [] ↔ l = [] := by unfold bCells; exact List.map_eq_nil_iff

/-- A list of bytes by value. -/
structure OneB (w : World) (A : Option Addr) (c : Nat) (l : List Int) : Prop where
  le : l.length ≤ c
  cap : c ≤ maxLen
  noA : A = none → l.length = 0 ∧ c = 0
  lies : Lies w A (bCells l)
  byte : ∀ x ∈ l, isB x
section
variable {w w' : World} {A : Option Addr} {c : Nat} {l : List Int}
theorem OneB.later (h : OneB w A c l) (hb : Below w.heap.size w w') : OneB w' A c l := ⟨h.le, h.cap, h.noA, h.lies.later hb, h.byte⟩
theorem OneB.len (h : OneB w A c l) : l.length ≤ 9223372036854775807 := by
  have h1 := h.le
  have h2 := h.cap
  unfold maxLen at h2
  omega
theorem OneB.of_own {base : Nat} {e : TypeId} {v : Value} (h : w.ownsRow base e 1 v l.length (bCells l)) (hb : ∀ x ∈ l, isB x) : ∃ A c, v = .slice A l.length c ∧ OneB w A c l := by
  obtain ⟨A, c, h1, h2, h3, h4, h5⟩ := own_form h
  exact ⟨A, c, h1, ⟨h2, h3, h4, h5, hb⟩⟩
/-- The cells of one of them. -/
theorem OneB.at (h : OneB w A c l) (hne : l ≠ []) : ∃ b off, A = some ⟨b, off, none⟩ ∧ ∀ k, k < l.length → w.cell? ⟨b, off + k, none⟩ = some (.int .u8 (l.getD k 0)) := by
  obtain ⟨b, off, hA, hc⟩ := h.lies (fun e => hne (bCells_nil.1 e))
  exact ⟨b, off, hA, fun k hk => hc _ _ (bCells_get l k hk)⟩

/-- As a text. -/
theorem OneB.text {P : Program} (h : OneB w A c l) {src e dst : TypeId} (hs : P.underlying src = some (.slice e)) (he : P.underlying e = some (.int .u8)) (hd : P.underlying dst = some .string) :
    (convert src dst (.slice A l.length c)).run P w = .ok (.string (strOfNums l)) w := by
  by_cases hne : l = []
  · subst hne
    cases A with
    | none =>
      rw [run_convert_bytes_nil w src e hs he _ _ dst hd]
      rfl
    | some a =>
      rw [run_convert_bytes_string w src dst e _ _ _ hs he hd, run_bytesToString w a ([] : List Int).length c [] (by first | rfl | (simp [loadCells]; rfl))]
      rfl
  · obtain ⟨b, off, rfl, hc⟩ := h.at hne
    exact run_convert_bytes_arg w src e hs he b off l.length c l rfl hc dst hd
end
theorem str_inj {l r : List Int} (hl : ∀ x ∈ l, isB x) (hr : ∀ x ∈ r, isB x) (h : strOfNums l = strOfNums r) : l = r := by
  have h1 : (l.map fun n => UInt8.ofNat n.toNat) = r.map fun n => UInt8.ofNat n.toNat := by
    have := congrArg (fun s : ByteArray => s.data.toList) h
    simpa [strOfNums_data] using this
  have back : ∀ m : List Int, (∀ x ∈ m, isB x) → (m.map fun n => UInt8.ofNat n.toNat).map (fun u : UInt8 => (u.toNat : Int)) = m := fun m hm => by
    rw [List.map_map]
    refine (List.map_congr_left fun x hx => ?_).trans (List.map_id m)
    have hb := hm x hx
    show ((UInt8.ofNat x.toNat).toNat : Int) = x
    rw [UInt8.toNat_ofNat']
    unfold isB at hb
    omega
  rw [← back l hl, ← back r hr, h1]
theorem str_eq {l r : List Int} (hl : ∀ x ∈ l, isB x) (hr : ∀ x ∈ r, isB x) : ((strOfNums l).toList == (strOfNums r).toList) = decide (l = r) := by
  rw [← beq_toListBytes, Bool.eq_iff_iff, decide_eq_true_eq]
  exact ⟨fun h => str_inj hl hr ((MapKept.bytes_beq _ _).1 h), fun h => by rw [h]; exact (MapKept.bytes_beq _ _).2 rfl⟩

namespace Pk
/-- A number's bytes: groups of seven bits, the lowest first. -/
def nb : Nat → Nat → List Int
  | 0, n => [(n : Int)]
  | f + 1, n => if n < 128 then [(n : Int)] else ((n % 128 + 128 : Nat) : Int) :: nb f (n / 128)
def bytesOf (n : Nat) : List Int := nb 9 n
theorem nb_byte : ∀ f n, n < 128 ^ (f + 1) → ∀ x ∈ nb f n, isB x
  | 0, n, h, x, hx => by
    simp [nb] at hx
    subst hx
    unfold isB
    simp at h
    omega
  | f + 1, n, h, x, hx => by
    unfold nb at hx
    split at hx
    · simp at hx
      subst hx
      unfold isB
      omega
    · rcases List.mem_cons.1 hx with rfl | hx
      · unfold isB
        omega
      · refine nb_byte f (n / 128) ?_ x hx
        rw [Nat.div_lt_iff_lt_mul (by omega)]
        rw [Nat.pow_succ] at h
        exact h
theorem nb_len : ∀ f n, 1 ≤ (nb f n).length ∧ (nb f n).length ≤ f + 1
  | 0, n => by simp [nb]
  | f + 1, n => by
    have h := nb_len f (n / 128)
    unfold nb
    split
    · simp
    · simp
      omega
/-- What bytes are worth, the lowest first. -/
def val : List Int → Int
  | [] => 0
  | b :: r => val r * 128 + b % 128
theorem val_nb : ∀ f n, n < 128 ^ (f + 1) → val (nb f n) = (n : Int)
  | 0, n, h => by
    simp at h
    show (0 : Int) * 128 + (n : Int) % 128 = n
    omega
  | f + 1, n, h => by
    unfold nb
    split
    · show (0 : Int) * 128 + (n : Int) % 128 = n
      omega
    · have hd : n / 128 < 128 ^ (f + 1) := by
        rw [Nat.div_lt_iff_lt_mul (by omega)]
        rw [Nat.pow_succ] at h
        exact h
      show val (nb f (n / 128)) * 128 + ((n % 128 + 128 : Nat) : Int) % 128 = n
      rw [val_nb f (n / 128) hd]
      omega
/-- How many of the first k bytes have the bit 128, up to the first one without it. -/
def lead : Nat → List Int → Nat
  | 0, _ => 0
  | _, [] => 0
  | k + 1, b :: r => if 128 ≤ b then lead k r + 1 else 0
/-- The number that bytes begin with, how many bytes it has, the error's number. -/
def num (l : List Int) : Int × Int × Int :=
  if lead 9 l = 9 then (0, 0, 4)
  else if lead 9 l = l.length then (0, 0, 5)
  else if l.getD (lead 9 l) 0 = 0 ∧ 0 < lead 9 l then (0, 0, 4)
  else (val (l.take (lead 9 l + 1)), (lead 9 l : Int) + 1, 0)
theorem lead_le : ∀ k l, lead k l ≤ k ∧ lead k l ≤ l.length
  | 0, l => ⟨Nat.le_refl _, Nat.zero_le _⟩
  | k + 1, [] => ⟨Nat.zero_le _, Nat.le_refl _⟩
  | k + 1, b :: r => by
    have h := lead_le k r
    unfold lead
    split
    · simp
      omega
    · simp
theorem lead_high : ∀ k l j, j < lead k l → 128 ≤ l.getD j 0
  | 0, l, j, h => by simp [lead] at h
  | k + 1, [], j, h => by simp [lead] at h
  | k + 1, b :: r, j, h => by
    unfold lead at h
    split at h
    · rename_i hb
      cases j with
      | zero => exact hb
      | succ m => exact lead_high k r m (by omega)
    · omega
theorem lead_low : ∀ k l, lead k l < k → lead k l < l.length → l.getD (lead k l) 0 < 128
  | 0, l, h, _ => by omega
  | k + 1, [], _, h2 => by simp [lead] at h2
  | k + 1, b :: r, h, h2 => by
    unfold lead at h h2 ⊢
    split at h
    · rename_i hb
      rw [if_pos hb] at h2 ⊢
      have := lead_low k r (by omega) (by simpa using h2)
      simpa using this
    · rename_i hb
      rw [if_neg hb]
      show b < 128
      omega
/-- Up to here, all have the bit; so the first one without it is not ahead of here. -/
theorem lead_at (k : Nat) (l : List Int) (i : Nat) (hi : i ≤ k) (hl : i ≤ l.length) (h : ∀ j, j < i → 128 ≤ l.getD j 0) : i ≤ lead k l := by
  rcases Nat.lt_or_ge (lead k l) i with hlt | hge
  · have h1 := lead_low k l (by omega) (by omega)
    have h2 := h _ hlt
    omega
  · exact hge
end Pk

end Go.Proofs.YtkhggofcbdcliaaDoor
namespace Go.Proofs.YtkhggofcbdcliaaDoor
open Go.RowKit

/-- The cells xs lie from a place of a block on, none of them frozen. -/
def Lay (w : World) (b off : Nat) (xs : List Value) : Prop := ∀ (j : Nat) (u : Value), xs[j]? = some u → w.cell? ⟨b, off + j, none⟩ = some u ∧ w.frozen? ⟨b, off + j, none⟩ = false

section
variable {w w' : World} {b off : Nat} {xs ys : List Value}
theorem Lay.later (h : Lay w b off xs) (hlt : b < w.heap.size) (hb : Below w.heap.size w w') : Lay w' b off xs := fun j u hu =>
  ⟨(hb.cell (p := ⟨b, off + j, none⟩) hlt).trans (h j u hu).1, (hb.frozen (p := ⟨b, off + j, none⟩) hlt).trans (h j u hu).2⟩
theorem Lay.drew (h : Lay w b off xs) : Lay w.drew b off xs := h
theorem Lay.put (h : Lay w b off xs) (i : Nat) (u : Value) : Lay (w.setCell ⟨b, off + i, none⟩ u) b off (xs.set i u) := by
  intro j v hv
  have hj : j < xs.length := by
    have := (List.getElem?_eq_some_iff.1 hv).1
    simpa using this
  have h0 := h j xs[j] (List.getElem?_eq_getElem hj)
  refine ⟨?_, by rw [World.frozen?_setCell]; exact h0.2⟩
  by_cases e : i = j
  · subst e
    rw [List.getElem?_set_self hj] at hv
    injection hv with hv
    subst hv
    exact World.cell?_setCell_same' _ _ _ (by rw [h0.1]; rfl)
  · rw [List.getElem?_set_ne e] at hv
    refine (World.cell?_setCell_other _ _ _ _ (fun hh => e (by injection hh with _ h2; omega))).trans (h j v hv).1
theorem Lay.far (h : Lay w b off xs) {p : Addr} (hp : b ≠ p.block) (u : Value) : Lay (w.setCell p u) b off xs := fun j v hv =>
  ⟨(World.cell?_of_block (w := w) (w' := w.setCell p u) (a := ⟨b, off + j, none⟩) (Below.heap_setCell w p u b hp)).trans (h j v hv).1, by rw [World.frozen?_setCell]; exact (h j v hv).2⟩
theorem Lay.sub (h : Lay w b off xs) (hs : ∀ (j : Nat) (u : Value), ys[j]? = some u → xs[j]? = some u) : Lay w b off ys := fun j u hu => h j u (hs j u hu)
theorem Lay.lies (h : Lay w b off xs) : Lies w (some ⟨b, off, none⟩) xs := fun _ => ⟨b, off, rfl, fun j u hu => (h j u hu).1⟩
theorem Lay.of_own {base : Nat} {e : TypeId} {size n cap : Nat} (h : w.ownsRow base e size (.slice (some ⟨b, 0, none⟩) n cap) n xs) : Lay w b 0 xs := by
  rcases h.2 with ⟨h1, _⟩ | ⟨g', cap', cur, h1, _, hg, _, _, _, ht⟩
  · cases h1
  · injection h1 with h1 h2 h3
    injection h1 with h1
    injection h1 with h1
    subst h1
    intro j u hu
    rw [Nat.zero_add]
    refine ⟨?_, Blk.free hg j⟩
    rw [cell_of_row w b j cur e (0, 0) hg, ← Array.getElem?_toList]
    rw [← ht, List.getElem?_take] at hu
    split at hu
    · exact hu
    · cases hu
/-- Cells behind the first ones are written anew: those stay. -/
theorem Lay.behind (h : Lay w b off xs) (k : Nat) (hk : xs.length ≤ k) (vs : List Value) : Lay (w.setCells b (off + k) vs) b off xs := fun j u hu => by
  have hj := (List.getElem?_eq_some_iff.1 hu).1
  refine ⟨?_, by rw [World.frozen?_setCells]; exact (h j u hu).2⟩
  rw [World.cell?_setCells_out b vs (off + k) w ⟨b, off + j, none⟩ (fun _ _ => Or.inl (by show off + j < off + k; omega))]
  exact (h j u hu).1
end

theorem below_cells {w0 : World} {b : Nat} (hb : w0.heap.size ≤ b) : ∀ (vs : List Value) (o : Nat) (w : World), Below w0.heap.size w0 w → Below w0.heap.size w0 (w.setCells b o vs)
  | [], _, _, h => h
  | v :: r, o, _, h => below_cells hb r (o + 1) _ (h.setCell (p := ⟨b, o, none⟩) hb v)

/-- 'clear(s)' of n elements of any number of cells. -/
theorem run_clear_cells {P : Program} (w : World) (t e ty : TypeId) (z : Value) (ht : P.underlying t = some (.slice e)) (hv : ∀ w, (zeroValue e).run P w = .ok z w) (b o n c : Nat) (hn : 0 < n)
    (h1 : ∀ u ∈ (Builtin.zeroCells z.cells n).toList, u.oneCell' = true)
    (hc : ∀ j, j < (Builtin.zeroCells z.cells n).toList.length → (w.cell? ⟨b, o + j, none⟩).isSome = true) (hf : ∀ j, j < (Builtin.zeroCells z.cells n).toList.length → w.frozen? ⟨b, o + j, none⟩ = false) :
    (Builtin.clear_ #[t] ty #[.slice (some ⟨b, o, none⟩) n c]).run P w = .ok (.tuple #[]) (w.setCells b o (Builtin.zeroCells z.cells n).toList) := by
  have hst := run_storeCells_cells (P := P) b o (Builtin.zeroCells z.cells n).toList 0 w (by simpa using hc) (by simpa using hf) h1
  simp only [Nat.add_zero] at hst
  obtain ⟨m, rfl⟩ : ∃ m, n = m + 1 := ⟨n - 1, by omega⟩
  simp [Builtin.clear_, run_underlying ht, hv, hst]

section
variable {α : Type} {q : α → Bool} {D Dk : List α} {i j : Nat}
/-- Of the first j elements those that are kept lie at the head, i of them; from j on all is as it was. -/
structure KeptL (q : α → Bool) (D : List α) (j i : Nat) (Dk : List α) : Prop where
  len : Dk.length = D.length
  head : Dk.take i = (D.take j).filter q
  cnt : ((D.take j).filter q).length = i
  lt : i < j
  le : j ≤ D.length
  tail : ∀ t, j ≤ t → Dk[t]? = D[t]?
theorem KeptL.start (hj : j < D.length) (hall : ∀ t (h : t < j), q (D[t]'(by omega)) = true) (hno : q D[j] = false) : KeptL q D (j + 1) j D where
  len := rfl
  head := by
    rw [List.take_succ_eq_append_getElem hj, List.filter_append, List.filter_eq_self.2 (fun x hx => by
      obtain ⟨t, ht, rfl⟩ := List.mem_iff_getElem.1 hx
      rw [List.getElem_take]
      exact hall t (by rw [List.length_take] at ht; omega))]
    simp [hno]
  cnt := by
    rw [List.take_succ_eq_append_getElem hj, List.filter_append, List.filter_eq_self.2 (fun x hx => by
      obtain ⟨t, ht, rfl⟩ := List.mem_iff_getElem.1 hx
      rw [List.getElem_take]
      exact hall t (by rw [List.length_take] at ht; omega))]
    simp [hno]
    omega
  lt := Nat.lt_succ_self _
  le := by omega
  tail := fun _ _ => rfl
theorem KeptL.skip (h : KeptL q D j i Dk) (hj : j < D.length) (hno : q D[j] = false) : KeptL q D (j + 1) i Dk where
  len := h.len
  head := by rw [h.head, List.take_succ_eq_append_getElem hj, List.filter_append]; simp [hno]
  cnt := by rw [List.take_succ_eq_append_getElem hj, List.filter_append]; simp [hno, h.cnt]
  lt := by have := h.lt; omega
  le := by omega
  tail := fun t ht => h.tail t (by omega)
theorem KeptL.keep (h : KeptL q D j i Dk) (hj : j < D.length) (hyes : q D[j] = true) : KeptL q D (j + 1) (i + 1) (Dk.set i D[j]) where
  len := by rw [List.length_set]; exact h.len
  head := by
    have hi : i < (Dk.set i D[j]).length := by rw [List.length_set, h.len]; have := h.lt; omega
    rw [List.take_succ_eq_append_getElem hi, List.getElem_set_self, List.take_set, List.set_eq_of_length_le (by rw [List.length_take]; omega), h.head, List.take_succ_eq_append_getElem hj, List.filter_append]
    simp [hyes]
  cnt := by rw [List.take_succ_eq_append_getElem hj, List.filter_append]; simp [hyes, h.cnt]
  lt := by have := h.lt; omega
  le := by omega
  tail := fun t ht => by
    rw [List.getElem?_set_ne (by have := h.lt; omega)]
    exact h.tail t (by omega)
theorem KeptL.done (h : KeptL q D D.length i Dk) : i = (D.filter q).length ∧ Dk.take i = D.filter q := by
  have h1 := h.cnt
  have h2 := h.head
  rw [List.take_length] at h1 h2
  exact ⟨h1.symm, h2⟩
theorem KeptL.get (h : KeptL q D j i Dk) (hj : j < D.length) : Dk[j]? = some D[j] := by rw [h.tail j (Nat.le_refl _), List.getElem?_eq_getElem hj]
end

end Go.Proofs.YtkhggofcbdcliaaDoor
namespace Go.Proofs.YtkhggofcbdcliaaDoor
open Go.RowKit

section
variable {w : World} {base : Nat} {e : TypeId} {size n cap g : Nat} {xs : List Value}
theorem own_cell_at (h : w.ownsRow base e size (.slice (some ⟨g, 0, none⟩) n cap) n xs) {i : Nat} {u : Value} (hu : xs[i]? = some u) : w.cell? ⟨g, i, none⟩ = some u := by
  rcases h.2 with ⟨h1, _⟩ | ⟨g', cap', cur, h1, _, hg, _, _, _, ht⟩
  · cases h1
  · injection h1 with h1 h2 h3
    injection h1 with h1
    injection h1 with h1
    subst h1
    rw [cell_of_row w g i cur e (0, 0) hg, ← Array.getElem?_toList]
    rw [← ht] at hu
    rw [List.getElem?_take] at hu
    split at hu
    · exact hu
    · cases hu
theorem own_free_at (h : w.ownsRow base e size (.slice (some ⟨g, 0, none⟩) n cap) n xs) (i : Nat) : w.frozen? ⟨g, i, none⟩ = false := by
  rcases h.2 with ⟨h1, _⟩ | ⟨g', cap', cur, h1, _, hg, _⟩
  · cases h1
  · injection h1 with h1 h2 h3
    injection h1 with h1
    injection h1 with h1
    subst h1
    exact Blk.free hg i
theorem own_base_le (h : w.ownsRow base e size (.slice (some ⟨g, 0, none⟩) n cap) n xs) : base ≤ g ∧ g < w.heap.size := by
  rcases h.2 with ⟨h1, _⟩ | ⟨g', cap', cur, h1, hb, hg, _⟩
  · cases h1
  · injection h1 with h1 h2 h3
    injection h1 with h1
    injection h1 with h1
    subst h1
    exact ⟨hb, Blk.lt hg⟩
theorem own_put (h : w.ownsRow base e size (.slice (some ⟨g, 0, none⟩) n cap) n xs) (i : Nat) (u : Value) : (w.setCell ⟨g, i, none⟩ u).ownsRow base e size (.slice (some ⟨g, 0, none⟩) n cap) n (xs.set i u) := by
  refine ⟨by rw [List.length_set]; exact h.1, ?_⟩
  rcases h.2 with ⟨h1, _⟩ | ⟨g', cap', cur, h1, hb, hg, h4, h5, h6, h7⟩
  · cases h1
  · injection h1 with h1 h2 h3
    injection h1 with h1
    injection h1 with h1
    subst h1 h3
    refine .inr ⟨g, cap, cur.setIfInBounds i u, rfl, hb, Blk.put hg i u, h4, h5, by rw [Array.size_setIfInBounds]; exact h6, ?_⟩
    rw [Array.toList_setIfInBounds, List.take_set, h7]
theorem own_len {v : Value} (h : w.ownsRow base e size v n xs) (hn : 0 < n) : ∃ g cap, v = .slice (some ⟨g, 0, none⟩) n cap := by
  obtain ⟨m, rfl⟩ : ∃ m, n = m + 1 := ⟨n - 1, by omega⟩
  exact ownsRow_succ h
end

theorem Blk.row {w : World} {g : Nat} {t : TypeId} {cs : Array Value} (h : Blk w g t cs) (cs' : Array Value) : Blk (w.setRow g cs') g t cs' := setRow_heap _ _ _ _ _ _ h
theorem Blk.rowFar {w : World} {g g' : Nat} {t : TypeId} {cs : Array Value} (h : Blk w g t cs) (hne : g ≠ g') (cs' : Array Value) : Blk (w.setRow g' cs') g t cs := (setRow_other _ _ _ _ hne).trans h
theorem Stamps.later {w w' : World} {A : Option Addr} {l : List (Int × Int)} (h : Stamps w A l) (hb : Below w.heap.size w w') : Stamps w' A l := fun hne => by
  obtain ⟨b, off, hA, hc⟩ := h hne
  exact ⟨b, off, hA, fun k hk => ⟨cell_later hb (hc k hk).1, cell_later hb (hc k hk).2⟩⟩
theorem take_ext {l r : List (Int × Int)} (h : l.length = r.length) (hk : ∀ k, k < l.length → l.getD k (0, 0) = r.getD k (0, 0)) : l = r := by
  apply List.ext_getElem h
  intro i h1 h2
  have := hk i h1
  rw [List.getD_eq_getElem?_getD, List.getD_eq_getElem?_getD, List.getElem?_eq_getElem h1, List.getElem?_eq_getElem h2] at this
  simpa using this

end Go.Proofs.YtkhggofcbdcliaaDoor
namespace Go.Proofs.YtkhggofcbdcliaaDoor
open Go.RowKit

/-- A list is answered; what was there before is as it was. -/
def Ans (l : List (Int × Int)) (w : World) (e : Ending) (w' : World) : Prop := ∃ A c, e = .returned (.slice A l.length c) ∧ OneL w' A c l ∧ Below w.heap.size w w'
/-- A value is answered; what was there before is as it was. -/
def Says (v : Value) (w : World) (e : Ending) (w' : World) : Prop := e = .returned v ∧ Below w.heap.size w w'

theorem two_slots (w : World) (x y : Value) (t : TypeId) : Blk (w.alloc (.cells #[x, y] t)) w.heap.size t #[x, y] := Blk.new w t _

/-- Two lists in a block of two. -/
theorem rows_two {w : World} {g : Nat} {t : TypeId} {A B : Option Addr} {c d : Nat} {l r : List (Int × Int)} (hB : Blk w g t #[.slice A l.length c, .slice B r.length d]) (h1 : OneL w A c l) (h2 : OneL w B d r) : Rows w (some ⟨g, 0, none⟩) [l, r] := fun _ => ⟨g, 0, rfl, fun k hk => by
  have hk2 : k = 0 ∨ k = 1 := by simp at hk; omega
  rcases hk2 with rfl | rfl
  · exact ⟨A, c, hB.cell rfl, h1⟩
  · exact ⟨B, d, hB.cell rfl, h2⟩⟩
/-- One stamp in a block of its own. -/
theorem one_stamp {w : World} {g : Nat} {t : TypeId} {c n : Int} (hB : Blk w g t #[.int .i64 c, .int .i64 n]) : OneL w (some ⟨g, 0, none⟩) 1 [(c, n)] :=
  ⟨Nat.le_refl _, (by unfold maxLen; omega), (fun h => by cases h), fun _ => ⟨g, 0, rfl, fun j u hu => by
    rw [Nat.zero_add]
    exact hB.cell (by simpa [stCells] using hu)⟩⟩
/-- One list in a block of one. -/
theorem rows_one {w : World} {g : Nat} {t : TypeId} {A : Option Addr} {c : Nat} {l : List (Int × Int)} (hB : Blk w g t #[.slice A l.length c]) (h1 : OneL w A c l) : Rows w (some ⟨g, 0, none⟩) [l] := fun _ => ⟨g, 0, rfl, fun k hk => by
  have hk0 : k = 0 := by simp at hk; omega
  subst hk0
  exact ⟨A, c, hB.cell rfl, h1⟩⟩

end Go.Proofs.YtkhggofcbdcliaaDoor
