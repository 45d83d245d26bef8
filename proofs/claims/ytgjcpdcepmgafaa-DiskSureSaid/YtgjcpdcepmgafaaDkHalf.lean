/-
  A list of files whose files are laid anew one by one: each in memory of the call's own, apart from one another. Nothing of the program is imported.
-/
import Derived.Test.YtgjcpdcepmgafaaDkPlain
namespace Go.Proofs.Ytgjcpdcepmgafaa
open Go.RowKit

section
variable {w w' : World} {base n0 : Nat} {t e : TypeId} {v : Value} {L Lk : List Fc} {k : Nat}
/-- A file's bytes lie in another block than the row of the files. -/
theorem OwnB.off_row {f : Fc} {g n cap : Nat} {xs : List Value} {size : Nat} (h : OwnB w base e f) (hr : w.ownsRow n0 t size (.slice (some ⟨g, 0, none⟩) n cap) n xs) (hne : t ≠ e) : f.blk ≠ some g := by
  intro hb
  unfold Fc.blk at hb
  cases hX : f.X with
  | none => rw [hX] at hb; cases hb
  | some a =>
    obtain ⟨b, cur, rfl, _, hB, _⟩ := h.at_ a hX
    rw [hX] at hb
    injection hb with hb
    subst hb
    rcases hr.2 with ⟨h1, _⟩ | ⟨g', cap', cur', h1, _, hg, _⟩
    · cases h1
    · injection h1 with h1
      injection h1 with h1
      injection h1 with h1
      subst h1
      unfold Blk at hB
      rw [hg] at hB
      injection hB with hB
      injection hB with _ hB
      exact hne hB
/-- A cell elsewhere is written anew. -/
theorem OwnB.far {f : Fc} (h : OwnB w base e f) {p : Addr} (hp : f.blk ≠ some p.block) (u : Value) : OwnB (w.setCell p u) base e f :=
  h.stays fun k hk => Below.heap_setCell w p u k (fun e => hp (by rw [← e]; exact hk))

/-- A file's bytes, in a block that is theirs alone. -/
def OwnS (w : World) (base : Nat) (e : TypeId) (f : Fc) : Prop := w.ownsRow base e 1 (.slice f.X f.l.length f.c) f.l.length (bCells f.l)
theorem sl_blk (f : Fc) : Value.ownBlock (.slice f.X f.l.length f.c) = f.blk := by
  unfold Fc.blk
  cases f.X <;> rfl
theorem OwnS.stays {f : Fc} (h : OwnS w base e f) (hs : ∀ k, f.blk = some k → w'.heap[k]? = w.heap[k]?) : OwnS w' base e f := own_stays h fun k hk => hs k (by rw [← sl_blk]; exact hk)
theorem OwnS.later {f : Fc} (h : OwnS w base e f) (hb : Below w.heap.size w w') : OwnS w' base e f := own_later h hb
theorem OwnS.lower {f : Fc} {base' : Nat} (h : OwnS w base e f) (hb : base' ≤ base) : OwnS w base' e f := own_base h hb
theorem OwnS.far {f : Fc} (h : OwnS w base e f) {p : Addr} (hp : f.blk ≠ some p.block) (u : Value) : OwnS (w.setCell p u) base e f :=
  h.stays fun k hk => Below.heap_setCell w p u k (fun e => hp (by rw [← e]; exact hk))
/-- Of a list of files the first k lie anew, as they read before. -/
structure HalfD (w : World) (n0 : Nat) (t e : TypeId) (v : Value) (L : List Fc) (k : Nat) (Lk : List Fc) : Prop where
  len : Lk.length = L.length
  fi : Lk.map Fc.fi = L.map Fc.fi
  rest : ∀ i, k ≤ i → Lk[i]? = L[i]?
  row : w.ownsRow n0 t 3 v L.length (fCells Lk)
  each : ∀ (i : Nat) (x : Fc), i < k → Lk[i]? = some x → OwnB w n0 e x
  hard : ∀ (i : Nat) (x : Fc), i < k → Lk[i]? = some x → OwnS w n0 e x
  apart : ∀ (i j : Nat) (x y : Fc) (b : Nat), i < j → j < k → Lk[i]? = some x → Lk[j]? = some y → x.blk = some b → y.blk ≠ some b
theorem HalfD.start (h : w.ownsRow n0 t 3 v L.length (fCells L)) : HalfD w n0 t e v L 0 L := ⟨rfl, rfl, fun _ _ => rfl, h, (fun i x hi => by omega), (fun i x hi => by omega), fun i j x y b hij hj => by omega⟩
theorem HalfD.next (hne : t ≠ e) {g cap : Nat} (h : HalfD w n0 t e (.slice (some ⟨g, 0, none⟩) L.length cap) L k Lk) {x : Fc} (hx : L[k]? = some x) {X : Option Addr} {c : Nat} (hb : Below w.heap.size w w') {B : Nat} (hB : w.heap.size ≤ B) (hn : n0 ≤ w.heap.size)
    (ho : OwnB w' B e { x with X := X, c := c }) (hs : OwnS w' B e { x with X := X, c := c }) : HalfD (w'.setCell ⟨g, k * 3 + 1, none⟩ (.slice X x.l.length c)) n0 t e (.slice (some ⟨g, 0, none⟩) L.length cap) L (k + 1) (Lk.set k { x with X := X, c := c }) := by
  have hk : k < L.length := (List.getElem?_eq_some_iff.1 hx).1
  have hxk : Lk[k]? = some x := by rw [h.rest k (Nat.le_refl _)]; exact hx
  have hrow := own_later h.row hb
  have hg := own_base_le h.row
  refine ⟨by rw [List.length_set]; exact h.len, ?_, fun i hi => ?_, ?_, fun i y hi hy => ?_, fun i y hi hy => ?_, fun i j y z b hij hj hy hz hby => ?_⟩
  · rw [List.map_set, ← h.fi]
    apply List.ext_getElem?
    intro i
    by_cases e : k = i
    · subst e
      rw [List.getElem?_set_self (by rw [List.length_map, h.len]; exact hk), List.getElem?_map, hxk]
      rfl
    · rw [List.getElem?_set_ne e]
  · rw [List.getElem?_set_ne (by omega)]
    exact h.rest i (by omega)
  · have := own_put hrow (k * 3 + 1) (.slice X x.l.length c)
    rw [fCells_set1 x X c x.l Lk k hxk] at this
    exact this
  · by_cases ek : i = k
    · subst ek
      rw [List.getElem?_set_self (by rw [h.len]; exact hk)] at hy
      cases hy
      exact (ho.lower (by omega)).far (ho.off_row hrow hne) _
    · rw [List.getElem?_set_ne (by omega)] at hy
      have h1 := (h.each i y (by omega) hy).later hb
      exact h1.far (h1.off_row hrow hne) _
  · by_cases ek : i = k
    · subst ek
      rw [List.getElem?_set_self (by rw [h.len]; exact hk)] at hy
      cases hy
      exact (hs.lower (by omega)).far (ho.off_row hrow hne) _
    · rw [List.getElem?_set_ne (by omega)] at hy
      have h1 := (h.each i y (by omega) hy).later hb
      exact ((h.hard i y (by omega) hy).later hb).far (h1.off_row hrow hne) _
  · by_cases ek : j = k
    · subst ek
      rw [List.getElem?_set_self (by rw [h.len]; exact hk)] at hz
      cases hz
      rw [List.getElem?_set_ne (by omega)] at hy
      have h1 := ((h.each i y hij hy).lt b hby).2
      intro hc
      have h2 := (ho.lt b hc).1
      omega
    · rw [List.getElem?_set_ne (by omega)] at hy hz
      exact h.apart i j y z b hij (by omega) hy hz hby
theorem HalfD.done (h : HalfD w n0 t e v L k Lk) (hk : L.length ≤ k) : OwnD w n0 t e v Lk := by
  refine ⟨by rw [h.len]; exact h.row, fun f hf => ?_, fun i j x y b hij hx hy => ?_⟩
  · obtain ⟨i, hi⟩ := List.getElem?_of_mem hf
    have := (List.getElem?_eq_some_iff.1 hi).1
    exact h.each i f (by rw [h.len] at this; omega) hi
  · have := (List.getElem?_eq_some_iff.1 hy).1
    exact h.apart i j x y b hij (by rw [h.len] at this; omega) hx hy
theorem HalfD.hards (h : HalfD w n0 t e v L k Lk) (hk : L.length ≤ k) : ∀ f ∈ Lk, OwnS w n0 e f := fun f hf => by
  obtain ⟨i, hi⟩ := List.getElem?_of_mem hf
  have := (List.getElem?_eq_some_iff.1 hi).1
  exact h.hard i f (by rw [h.len] at this; omega) hi
/-- A file behind the others. -/
theorem OwnD.snoc (hne : t ≠ e) (h : OwnD w n0 t e v L) {x : Fc} {B : Nat} (hB : n0 ≤ B) (hlt : ∀ f ∈ L, ∀ b, f.blk = some b → b < B) (ho : OwnB w B e x) {v2 : Value} {w2 : World} (hg : w.grownBy w2 v.ownBlock)
    (h2 : w2.ownsRow n0 t 3 v2 (L.length + 1) (fCells L ++ fCells [x])) : OwnD w2 n0 t e v2 (L ++ [x]) := by
  have keep : ∀ {B : Nat} {f : Fc}, OwnB w B e f → OwnB w2 B e f := fun {B f} hf => hf.stays fun k hk => hg.block k (hf.lt k hk).2 (fun ek => by
    obtain ⟨_, h1⟩ := h.row
    rcases h1 with ⟨hv, _⟩ | ⟨g, cap, cur, hv, _⟩
    · rw [hv] at ek; cases ek
    · have hr := h.row
      rw [hv] at ek hr
      have : f.blk = some g := by rw [hk]; exact ek
      exact hf.off_row hr hne this)
  refine ⟨by rw [fCells_append, List.length_append, List.length_singleton]; exact h2, fun f hf => ?_, fun i j y z b hij hy hz hby => ?_⟩
  · rcases List.mem_append.1 hf with hf | hf
    · exact keep (h.each f hf)
    · simp at hf
      subst hf
      exact keep (ho.lower hB)
  · have hj := (List.getElem?_eq_some_iff.1 hz).1
    rw [List.length_append, List.length_singleton] at hj
    rw [List.getElem?_append_left (by omega)] at hy
    by_cases ej : j < L.length
    · rw [List.getElem?_append_left ej] at hz
      exact h.apart i j y z b hij hy hz hby
    · have : j = L.length := by omega
      subst this
      rw [List.getElem?_concat_length] at hz
      cases hz
      have h1 := hlt y (List.mem_of_getElem? hy) b hby
      intro hc
      have := (ho.lt b hc).1
      omega
theorem OwnD.blk_lt (h : OwnD w n0 t e v L) : ∀ f ∈ L, ∀ b, f.blk = some b → b < w.heap.size := fun f hf b hb => ((h.each f hf).lt b hb).2
/-- A cell below is written anew. -/
theorem OwnD.low (h : OwnD w n0 t e v L) {p : Addr} (hp : p.block < n0) (u : Value) : OwnD (w.setCell p u) n0 t e v L :=
  have hf : ∀ k, n0 ≤ k → (w.setCell p u).heap[k]? = w.heap[k]? := fun k hk => Below.heap_setCell _ _ _ _ (by omega)
  ⟨own_stays h.row fun k hk => hf k (own_ge h.row k hk), fun f hfm => (h.each f hfm).stays fun k hk => hf k ((h.each f hfm).lt k hk).1, h.apart⟩
theorem OwnD.nil (w : World) (n0 : Nat) (t e : TypeId) : OwnD w n0 t e (.slice none 0 0) [] := ⟨⟨rfl, .inl ⟨rfl, rfl⟩⟩, (fun _ h => by cases h), fun i j x y b _ hx => by simp at hx⟩
end
end Go.Proofs.Ytgjcpdcepmgafaa
