/-
  A run of cells that lies unfrozen in a block of one's own: written anew cell by cell, cut, cleared. What a filter keeps while it goes. Nothing of the program is imported.
  The cells of lists of writes and stamps, written anew one by one. Nothing of the program is imported.
  What telltaleref04's Told answers.
  What telltaleref04's Of answers.
-/
import Derived.Test.YtcfkpjbakccgiaaG01
import Derived.Laws.OwnMore
import Derived.Laws.IdiomCopy
import Derived.Test.YtcfkpjbakccgiaaG04
import Derived.Test.YtcfkpjbakccgiaaG09
namespace Go.Proofs.Ytcfkpjbakccgiaa
open Go.RowKit

/-- The cells xs lie from a place of a block on, none of them frozen. -/
def Lay (w : World) (b off : Nat) (xs : List Value) : Prop := ∀ (j : Nat) (u : Value), xs[j]? = some u → w.cell? ⟨b, off + j, none⟩ = some u ∧ w.frozen? ⟨b, off + j, none⟩ = false

section
variable {w w' : World} {b off : Nat} {xs ys : List Value}
theorem Lay.later (h : Lay w b off xs) (hlt : b < w.heap.size) (hb : Below w.heap.size w w') : Lay w' b off xs := fun j u hu =>
  ⟨(hb.cell (p := ⟨b, off + j, none⟩) hlt).trans (h j u hu).1, (hb.frozen (p := ⟨b, off + j, none⟩) hlt).trans (h j u hu).2⟩
theorem Lay.drew (h : Lay w b off xs) : Lay w.drew b off xs := h
theorem Lay.put (h : Lay w b off xs) (i : Nat) (u : Value) : Lay (w.setCell ⟨b, off + i, none⟩ u) b off (xs.set i u) := by
  intro j v hv
  have hj : j < xs.length := by
    have := (List.getElem?_eq_some_iff.1 hv).1
    simpa using this
  have h0 := h j xs[j] (List.getElem?_eq_getElem hj)
  refine ⟨?_, by rw [World.frozen?_setCell]; exact h0.2⟩
  by_cases e : i = j
  · subst e
    rw [List.getElem?_set_self hj] at hv
    injection hv with hv
    subst hv
    exact World.cell?_setCell_same' _ _ _ (by rw [h0.1]; rfl)
  · rw [List.getElem?_set_ne e] at hv
    refine (World.cell?_setCell_other _ _ _ _ (fun hh => e (by injection hh with _ h2; omega))).trans (h j v hv).1
theorem Lay.far (h : Lay w b off xs) {p : Addr} (hp : b ≠ p.block) (u : Value) : Lay (w.setCell p u) b off xs := fun j v hv =>
  ⟨(World.cell?_of_block (w := w) (w' := w.setCell p u) (a := ⟨b, off + j, none⟩) (Below.heap_setCell w p u b hp)).trans (h j v hv).1, by rw [World.frozen?_setCell]; exact (h j v hv).2⟩
theorem Lay.sub (h : Lay w b off xs) (hs : ∀ (j : Nat) (u : Value), ys[j]? = some u → xs[j]? = some u) : Lay w b off ys := fun j u hu => h j u (hs j u hu)
theorem Lay.lies (h : Lay w b off xs) : Lies w (some ⟨b, off, none⟩) xs := fun _ => ⟨b, off, rfl, fun j u hu => (h j u hu).1⟩
theorem Lay.of_own {base : Nat} {e : TypeId} {size n cap : Nat} (h : w.ownsRow base e size (.slice (some ⟨b, 0, none⟩) n cap) n xs) : Lay w b 0 xs := by
  rcases h.2 with ⟨h1, _⟩ | ⟨g', cap', cur, h1, _, hg, _, _, _, ht⟩
  · cases h1
  · injection h1 with h1 h2 h3
    injection h1 with h1
    injection h1 with h1
    subst h1
    intro j u hu
    rw [Nat.zero_add]
    refine ⟨?_, Blk.free hg j⟩
    rw [cell_of_row w b j cur e (0, 0) hg, ← Array.getElem?_toList]
    rw [← ht, List.getElem?_take] at hu
    split at hu
    · exact hu
    · cases hu
/-- Cells behind the first ones are written anew: those stay. -/
theorem Lay.behind (h : Lay w b off xs) (k : Nat) (hk : xs.length ≤ k) (vs : List Value) : Lay (w.setCells b (off + k) vs) b off xs := fun j u hu => by
  have hj := (List.getElem?_eq_some_iff.1 hu).1
  refine ⟨?_, by rw [World.frozen?_setCells]; exact (h j u hu).2⟩
  rw [World.cell?_setCells_out b vs (off + k) w ⟨b, off + j, none⟩ (fun _ _ => Or.inl (by show off + j < off + k; omega))]
  exact (h j u hu).1
end

theorem below_cells {w0 : World} {b : Nat} (hb : w0.heap.size ≤ b) : ∀ (vs : List Value) (o : Nat) (w : World), Below w0.heap.size w0 w → Below w0.heap.size w0 (w.setCells b o vs)
  | [], _, _, h => h
  | v :: r, o, _, h => below_cells hb r (o + 1) _ (h.setCell (p := ⟨b, o, none⟩) hb v)

/-- 'clear(s)' of n elements of any number of cells. -/
theorem run_clear_cells {P : Program} (w : World) (t e ty : TypeId) (z : Value) (ht : P.underlying t = some (.slice e)) (hv : ∀ w, (zeroValue e).run P w = .ok z w) (b o n c : Nat) (hn : 0 < n)
    (h1 : ∀ u ∈ (Builtin.zeroCells z.cells n).toList, u.oneCell' = true)
    (hc : ∀ j, j < (Builtin.zeroCells z.cells n).toList.length → (w.cell? ⟨b, o + j, none⟩).isSome = true) (hf : ∀ j, j < (Builtin.zeroCells z.cells n).toList.length → w.frozen? ⟨b, o + j, none⟩ = false) :
    (Builtin.clear_ #[t] ty #[.slice (some ⟨b, o, none⟩) n c]).run P w = .ok (.tuple #[]) (w.setCells b o (Builtin.zeroCells z.cells n).toList) := by
  have hst := run_storeCells_cells (P := P) b o (Builtin.zeroCells z.cells n).toList 0 w (by simpa using hc) (by simpa using hf) h1
  simp only [Nat.add_zero] at hst
  obtain ⟨m, rfl⟩ : ∃ m, n = m + 1 := ⟨n - 1, by omega⟩
  simp [Builtin.clear_, run_underlying ht, hv, hst]

section
variable {α : Type} {q : α → Bool} {D Dk : List α} {i j : Nat}
/-- Of the first j elements those that are kept lie at the head, i of them; from j on all is as it was. -/
structure KeptL (q : α → Bool) (D : List α) (j i : Nat) (Dk : List α) : Prop where
  len : Dk.length = D.length
  head : Dk.take i = (D.take j).filter q
  cnt : ((D.take j).filter q).length = i
  lt : i < j
  le : j ≤ D.length
  tail : ∀ t, j ≤ t → Dk[t]? = D[t]?
theorem KeptL.start (hj : j < D.length) (hall : ∀ t (h : t < j), q (D[t]'(by omega)) = true) (hno : q D[j] = false) : KeptL q D (j + 1) j D where
  len := rfl
  head := by
    rw [List.take_succ_eq_append_getElem hj, List.filter_append, List.filter_eq_self.2 (fun x hx => by
      obtain ⟨t, ht, rfl⟩ := List.mem_iff_getElem.1 hx
      rw [List.getElem_take]
      exact hall t (by rw [List.length_take] at ht; omega))]
    simp [hno]
  cnt := by
    rw [List.take_succ_eq_append_getElem hj, List.filter_append, List.filter_eq_self.2 (fun x hx => by
      obtain ⟨t, ht, rfl⟩ := List.mem_iff_getElem.1 hx
      rw [List.getElem_take]
      exact hall t (by rw [List.length_take] at ht; omega))]
    simp [hno]
    omega
  lt := Nat.lt_succ_self _
  le := by omega
  tail := fun _ _ => rfl
theorem KeptL.skip (h : KeptL q D j i Dk) (hj : j < D.length) (hno : q D[j] = false) : KeptL q D (j + 1) i Dk where
  len := h.len
  head := by rw [h.head, List.take_succ_eq_append_getElem hj, List.filter_append]; simp [hno]
  cnt := by rw [List.take_succ_eq_append_getElem hj, List.filter_append]; simp [hno, h.cnt]
  lt := by have := h.lt; omega
  le := by omega
  tail := fun t ht => h.tail t (by omega)
theorem KeptL.keep (h : KeptL q D j i Dk) (hj : j < D.length) (hyes : q D[j] = true) : KeptL q D (j + 1) (i + 1) (Dk.set i D[j]) where
  len := by rw [List.length_set]; exact h.len
  head := by
    have hi : i < (Dk.set i D[j]).length := by rw [List.length_set, h.len]; have := h.lt; omega
    rw [List.take_succ_eq_append_getElem hi, List.getElem_set_self, List.take_set, List.set_eq_of_length_le (by rw [List.length_take]; omega), h.head, List.take_succ_eq_append_getElem hj, List.filter_append]
    simp [hyes]
  cnt := by rw [List.take_succ_eq_append_getElem hj, List.filter_append]; simp [hyes, h.cnt]
  lt := by have := h.lt; omega
  le := by omega
  tail := fun t ht => by
    rw [List.getElem?_set_ne (by have := h.lt; omega)]
    exact h.tail t (by omega)
theorem KeptL.done (h : KeptL q D D.length i Dk) : i = (D.filter q).length ∧ Dk.take i = D.filter q := by
  have h1 := h.cnt
  have h2 := h.head
  rw [List.take_length] at h1 h2
  exact ⟨h1.symm, h2⟩
theorem KeptL.get (h : KeptL q D j i Dk) (hj : j < D.length) : Dk[j]? = some D[j] := by rw [h.tail j (Nat.le_refl _), List.getElem?_eq_getElem hj]
end

end Go.Proofs.Ytcfkpjbakccgiaa
namespace Go.Proofs.Ytcfkpjbakccgiaa
open Go.RowKit

theorem OneW.of_lay {w : World} {b off c : Nat} {l : List Wr} (h : Lay w b off (Nt.wrCells l)) (h1 : l.length ≤ c) (h2 : c ≤ maxLen) : OneW w (some ⟨b, off, none⟩) c l := ⟨h1, h2, (fun h => by cases h), h.lies⟩
theorem OneL.of_lay {w : World} {b off c : Nat} {l : List (Int × Int)} (h : Lay w b off (stCells l)) (h1 : l.length ≤ c) (h2 : c ≤ maxLen) : OneL w (some ⟨b, off, none⟩) c l := ⟨h1, h2, (fun h => by cases h), h.lies⟩

/-- The cells of a list whose element i is written anew. -/
theorem wr_set (D : List Wr) (x : Wr) : ∀ i, i < D.length → ((((Nt.wrCells D).set (i * 4) (.int .i64 x.1)).set (i * 4 + 1) (.int .i64 x.2.1)).set (i * 4 + 2) (.int .i64 x.2.2.1)).set (i * 4 + 3) (.bool x.2.2.2) = Nt.wrCells (D.set i x) := by
  induction D with
  | nil => intro i hi; simp at hi
  | cons y r ih =>
    intro i hi
    cases i with
    | zero => rfl
    | succ m =>
      have e : Nt.wrCells (y :: r) = [.int .i64 y.1, .int .i64 y.2.1, .int .i64 y.2.2.1, .bool y.2.2.2] ++ Nt.wrCells r := rfl
      have e2 : Nt.wrCells ((y :: r).set (m + 1) x) = [.int .i64 y.1, .int .i64 y.2.1, .int .i64 y.2.2.1, .bool y.2.2.2] ++ Nt.wrCells (r.set m x) := rfl
      rw [e, e2, ← ih m (by simpa using hi), show (m + 1) * 4 = m * 4 + 4 from by omega]
      rfl
theorem st_set (D : List (Int × Int)) (x : Int × Int) : ∀ i, i < D.length → ((stCells D).set (i * 2) (.int .i64 x.1)).set (i * 2 + 1) (.int .i64 x.2) = stCells (D.set i x) := by
  induction D with
  | nil => intro i hi; simp at hi
  | cons y r ih =>
    intro i hi
    cases i with
    | zero => rfl
    | succ m =>
      have e : stCells (y :: r) = [.int .i64 y.1, .int .i64 y.2] ++ stCells r := rfl
      have e2 : stCells ((y :: r).set (m + 1) x) = [.int .i64 y.1, .int .i64 y.2] ++ stCells (r.set m x) := rfl
      rw [e, e2, ← ih m (by simpa using hi), show (m + 1) * 2 = m * 2 + 2 from by omega]
      rfl
/-- The cells of element k, where the list has it. -/
theorem wr_get (l : List Wr) (x : Wr) (k : Nat) (h : l[k]? = some x) : (Nt.wrCells l)[k * 4]? = some (.int .i64 x.1) ∧ (Nt.wrCells l)[k * 4 + 1]? = some (.int .i64 x.2.1) ∧ (Nt.wrCells l)[k * 4 + 2]? = some (.int .i64 x.2.2.1) ∧ (Nt.wrCells l)[k * 4 + 3]? = some (.bool x.2.2.2) := by
  have hk := (List.getElem?_eq_some_iff.1 h).1
  have := Nt.wrCells_get l k hk
  rw [List.getD_eq_getElem?_getD, h] at this
  exact this
theorem st_get (l : List (Int × Int)) (x : Int × Int) (k : Nat) (h : l[k]? = some x) : (stCells l)[k * 2]? = some (.int .i64 x.1) ∧ (stCells l)[k * 2 + 1]? = some (.int .i64 x.2) := by
  have hk := (List.getElem?_eq_some_iff.1 h).1
  have := stCells_get l k hk
  rw [List.getD_eq_getElem?_getD, h] at this
  exact this
theorem wr_take (l : List Wr) (n : Nat) : ∀ (j : Nat) (u : Value), (Nt.wrCells (l.take n))[j]? = some u → (Nt.wrCells l)[j]? = some u := by
  intro j u hu
  rw [← List.take_append_drop n l, Nt.wrCells_append, List.getElem?_append_left (List.getElem?_eq_some_iff.1 hu).1]
  exact hu
theorem st_take (l : List (Int × Int)) (n : Nat) : ∀ (j : Nat) (u : Value), (stCells (l.take n))[j]? = some u → (stCells l)[j]? = some u := by
  intro j u hu
  rw [← List.take_append_drop n l, stCells_append, List.getElem?_append_left (List.getElem?_eq_some_iff.1 hu).1]
  exact hu

end Go.Proofs.Ytcfkpjbakccgiaa
namespace Go.Proofs.Ytcfkpjbakccgiaa
open Go.RowKit

namespace Nt
/-- What a note says of an object: its write, is it sharp, the error's number. -/
def told (n : Note) (o : Int) : Wr × Bool × Int :=
  if fmd n = true ∧ 0 ≤ o ∧ o ≤ 255 then (if (at_ n.ws o).2 = true then ((at_ n.ws o).1, true, 0) else (zeroW, !inOf n.b o, 8)) else (zeroW, false, 1)
def toldV (r : Wr × Bool × Int) : Value := .tuple #[wrV r.1, .bool r.2.1, .int .i64 r.2.2]
end Nt

/-- Four cells of a write are stored, one after the other. -/
theorem wr_puts {w : World} {g : Nat} {t : TypeId} {y0 y1 y2 y3 : Value} (hB : Blk w g t #[y0, y1, y2, y3]) (x : Wr) : Blk ((((w.setCell ⟨g, 0, none⟩ (.int .i64 x.1)).setCell ⟨g, 1, none⟩ (.int .i64 x.2.1)).setCell ⟨g, 2, none⟩ (.int .i64 x.2.2.1)).setCell ⟨g, 3, none⟩ (.bool x.2.2.2)) g t (Nt.wrArr x) := (((hB.put 0 _).put 1 _).put 2 _).put 3 _
theorem below_puts {w0 w : World} {g : Nat} (hb : Below w0.heap.size w0 w) (hg : w0.heap.size ≤ g) (x0 x1 x2 x3 : Value) : Below w0.heap.size w0 ((((w.setCell ⟨g, 0, none⟩ x0).setCell ⟨g, 1, none⟩ x1).setCell ⟨g, 2, none⟩ x2).setCell ⟨g, 3, none⟩ x3) :=
  (((hb.setCell (p := ⟨g, 0, none⟩) hg _).setCell (p := ⟨g, 1, none⟩) hg _).setCell (p := ⟨g, 2, none⟩) hg _).setCell (p := ⟨g, 3, none⟩) hg _
theorem wr_cells {w : World} {g : Nat} {t : TypeId} {x : Wr} (h : Blk w g t (Nt.wrArr x)) : (w.cell? ⟨g, 0, none⟩ = some (.int .i64 x.1) ∧ w.cell? ⟨g, 1, none⟩ = some (.int .i64 x.2.1) ∧ w.cell? ⟨g, 2, none⟩ = some (.int .i64 x.2.2.1) ∧ w.cell? ⟨g, 3, none⟩ = some (.bool x.2.2.2)) ∧
    (w.frozen? ⟨g, 0, none⟩ = false ∧ w.frozen? ⟨g, 1, none⟩ = false ∧ w.frozen? ⟨g, 2, none⟩ = false ∧ w.frozen? ⟨g, 3, none⟩ = false) := ⟨⟨h.cell rfl, h.cell rfl, h.cell rfl, h.cell rfl⟩, h.free 0, h.free 1, h.free 2, h.free 3⟩

end Go.Proofs.Ytcfkpjbakccgiaa
namespace Go.Proofs.Ytcfkpjbakccgiaa
open Go.RowKit

/-- The empty note. -/
def noNote : Note := ⟨[], [], [], []⟩
theorem noNote_at (w : World) : NoteAt w none none none none 0 0 0 0 noNote := ⟨OneL.nil, OneL.nil, OneL.nil, OneW.nil⟩
theorem one_write {w : World} {g : Nat} {t : TypeId} {y : Wr} (hB : Blk w g t (Nt.wrArr y)) : OneW w (some ⟨g, 0, none⟩) 1 [y] :=
  ⟨Nat.le_refl _, (by unfold maxLen; omega), (fun h => by cases h), fun _ => ⟨g, 0, rfl, fun j u hu => by
    rw [Nat.zero_add]
    exact hB.cell (by simpa [Nt.wrCells, Nt.wrCell, Nt.wrArr] using hu)⟩⟩
/-- The note of one write, or an error's number. -/
def ofN (l : List (Int × Int)) (y : Wr) : Note × Int :=
  if (Ve.fmd l = true ∧ St.rgt y.1 y.2.1 = true) ∧ (0 ≤ y.2.2.1 ∧ y.2.2.1 ≤ 255) ∧ hasOf l y.1 y.2.1 = false then (⟨l, Ve.joinL [l, [(y.1, y.2.1)]], [], [y]⟩, 0) else (noNote, 1)

/-- Four slices of a note are stored, one after the other. -/
theorem nt_puts {w : World} {g : Nat} {t : TypeId} {y0 y1 y2 y3 : Value} (hB : Blk w g t #[y0, y1, y2, y3]) (S E B V : Option Addr) (cs ce cb cv : Nat) (n : Note) : Blk ((((w.setCell ⟨g, 0, none⟩ (.slice S n.s.length cs)).setCell ⟨g, 1, none⟩ (.slice E n.e.length ce)).setCell ⟨g, 2, none⟩ (.slice B n.b.length cb)).setCell ⟨g, 3, none⟩ (.slice V n.ws.length cv)) g t (noteCells S E B V cs ce cb cv n) := (((hB.put 0 _).put 1 _).put 2 _).put 3 _
theorem nt_cells {w : World} {g : Nat} {t : TypeId} {y0 y1 y2 y3 : Value} (h : Blk w g t #[y0, y1, y2, y3]) : (w.cell? ⟨g, 0, none⟩ = some y0 ∧ w.cell? ⟨g, 1, none⟩ = some y1 ∧ w.cell? ⟨g, 2, none⟩ = some y2 ∧ w.cell? ⟨g, 3, none⟩ = some y3) ∧
    (w.frozen? ⟨g, 0, none⟩ = false ∧ w.frozen? ⟨g, 1, none⟩ = false ∧ w.frozen? ⟨g, 2, none⟩ = false ∧ w.frozen? ⟨g, 3, none⟩ = false) := ⟨⟨h.cell rfl, h.cell rfl, h.cell rfl, h.cell rfl⟩, h.free 0, h.free 1, h.free 2, h.free 3⟩

end Go.Proofs.Ytcfkpjbakccgiaa
