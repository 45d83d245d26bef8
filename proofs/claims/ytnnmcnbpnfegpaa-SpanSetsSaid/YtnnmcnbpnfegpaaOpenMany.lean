/-
  A slice of slices of stamps as an argument, opened.
-/
import Derived.Test.YtnnmcnbpnfegpaaOpen
import Derived.Test.YtnnmcnbpnfegpaaMany
import Derived.SizedLaws
namespace Go.Proofs.Ytnnmcnbpnfegpaa
open Go.ChangeShapes Go.WideShapes Go.RowKit Go.Deep

section
variable {H : Type} {enc : TypeId × Value → H} {P : Program} {w : World}

/-- A slice whose elements' cells are known by 'f', at its own cell. -/
theorem open_list_at {α : Type} (z : α) (f : α → List Value) {size : Nat} (hf : ∀ a, (f a).length = size) {t e : TypeId} {fuel0 : Nat} {cs0 : List Value} {y : DataW H × List MemPlace}
    (ht : P.underlying t = some (.slice e)) (hC : P.cellsOf e = size) (hsz : 0 < size)
    (helem : ∀ (fuel : Nat) (cs : List Value) (x : DataW H × List MemPlace), DataW.trod enc P w 0 (fun _ => true) true fuel e cs = some x → ∃ a, cs = f a)
    (hfu : DataW.trod enc P w 0 (fun _ => true) true fuel0 t cs0 = some y) :
    ∃ (A : Option Addr) (cap : Nat) (l : List α), cs0 = [.slice A l.length cap] ∧ l.length ≤ cap ∧ cap ≤ maxLen ∧ (A = none → l.length = 0 ∧ cap = 0) ∧ Lies w A (l.flatMap f) ∧
      ((y.1 = .nil ∧ l.length = 0 ∧ cap = 0) ∨ ∃ elems spare, y.1 = .slice elems spare ∧ elems.length = l.length ∧ elems.length + spare.length = cap) := by
  rcases open_slice ht hfu with ⟨hcs, hx⟩ | ⟨a, len, cap, m, n, D, Pl, hcs, _, hl, hm, hmm, hx, hi⟩
  · subst hcs hx
    exact ⟨none, 0, [], rfl, Nat.le_refl _, Nat.zero_le _, fun _ => ⟨rfl, rfl⟩, Lies.nil, .inl ⟨rfl, rfl, rfl⟩⟩
  · simp at hmm
    subst hmm
    obtain ⟨g, hg⟩ := pick (n := len) (p := fun i s => ∀ j, j < size → w.cell? (a.add (i * size + j)) = (f s)[j]?) z (fun i hi' => by
      obtain ⟨cs', hc, ht'⟩ := hi i (by omega)
      rw [hC] at hc
      obtain ⟨s, rfl⟩ := helem _ _ _ ht'
      obtain ⟨_, _, hcell⟩ := World.cells?_some hc
      refine ⟨s, fun j hj => ?_⟩
      rw [← hcell j hj, Go.Deep.add_add])
    refine ⟨some a, m, (List.range len).map g, by simpa using hcs, by simpa using hl, hm, (fun h => by cases h), (fun hne => ?_), .inr ⟨_, _, by rw [hx], by simp, by simp; omega⟩⟩
    have hpos : 0 < len := by
      rcases Nat.eq_zero_or_pos len with h0 | h0
      · subst h0; simp at hne
      · exact h0
    obtain ⟨b, off, spot⟩ := a
    have h00 := hg 0 hpos 0 hsz
    have hspot : spot = none := by
      have hlen := hf (g 0)
      rw [List.getElem?_eq_getElem (by omega)] at h00
      simpa [Addr.add] using World.cell?_spot h00
    subst hspot
    refine ⟨b, off, rfl, fun j u hu => ?_⟩
    obtain ⟨i, r, s, h1, h2, h3, h4⟩ := flat_get f hf _ j u hu
    have hil : i < len := by
      have := (List.getElem?_eq_some_iff.1 h1).1
      simpa using this
    simp [hil] at h1
    subst h1
    rw [← Go.WideShapes.add_plain, h3, hg i hil r h2]
    exact h4

/-- A slice of slices of stamps. -/
theorem open_rows {r : Reach} {b0 : Nat} {tt t e ti : TypeId} {f0 f1 : Field} {v : Value} {d : DataW H} {p : List MemPlace}
    (htt : P.underlying tt = some (.slice t)) (hCt : P.cellsOf t = 1)
    (ht : P.underlying t = some (.slice e)) (hs : P.underlying e = some (.struct #[f0, f1])) (hone : Deep.oneCellFields P #[f0, f1] = true) (hC : P.cellsOf e = 2) (hi0 : f0.type = ti) (hi1 : f1.type = ti) (hi : P.underlying ti = some (.int .i64))
    (hv : Value.okWide P w r b0 tt v) (h : DataW.Trod enc P w 0 (fun _ => true) true tt v d p) :
    ∃ (A : Option Addr) (cap : Nat) (ls : List (List (Int × Int))), v = .slice A ls.length cap ∧ ls.length ≤ cap ∧ cap ≤ maxLen ∧ (A = none → ls.length = 0 ∧ cap = 0) ∧ Rows w A ls ∧
      ∀ k, k < ls.length → (ls.getD k []).length = 0 ∨ ∃ elems spare e' sp', d = .slice elems spare ∧ DataW.slice e' sp' ∈ elems ∧ e'.length = (ls.getD k []).length := by
  obtain ⟨a0, len0, cap0, rfl⟩ := okWide_slice htt hv
  obtain ⟨fuel, hfu⟩ := h
  rcases open_slice1 htt hCt hfu with ⟨hcs, hx⟩ | ⟨a, len, cap, m, n, V, D, Pl, hcs, _, hl, hm, hmm, hx, hin⟩
  · simp [Value.cells] at hcs hx
    obtain ⟨rfl, rfl, rfl⟩ := hcs
    exact ⟨none, 0, [], rfl, Nat.le_refl _, Nat.zero_le _, fun _ => ⟨rfl, rfl⟩, Rows.nil, fun k hk => by simp at hk⟩
  · simp [Value.cells] at hcs hx hmm
    obtain ⟨rfl, rfl, rfl⟩ := hcs
    subst hmm
    obtain ⟨g, hg⟩ := pick (n := len0) (p := fun i (x : Option Addr × Nat × List (Int × Int)) => w.cell? (a.add i) = some (.slice x.1 x.2.2.length x.2.1) ∧ OneL w x.1 x.2.1 x.2.2 ∧
        (x.2.2.length = 0 ∨ ∃ e' sp', D i = .slice e' sp' ∧ e'.length = x.2.2.length)) (none, 0, []) (fun i hi' => by
      obtain ⟨h1, h2⟩ := hin i (by omega)
      obtain ⟨A, c, l, e1, e2, e3, e4, e5, e6⟩ := open_list_at (0, 0) stCell (size := 2) (fun _ => rfl) ht hC (by decide) (fun fuel cs x hx => by
        obtain ⟨c, n, rfl, _⟩ := stamp_cells hs hone hC hi0 hi1 hi hx
        exact ⟨(c, n), rfl⟩) h2
      rw [stCells_flat] at e5
      injection e1 with e1
      refine ⟨(A, c, l), by rw [h1, e1], ⟨e2, e3, e4, e5⟩, ?_⟩
      rcases e6 with ⟨_, e6, _⟩ | ⟨el, sp, e6, e7, _⟩
      · exact .inl e6
      · exact .inr ⟨el, sp, e6, e7⟩)
    have hget : ∀ k, k < len0 → ((List.range len0).map fun i => (g i).2.2).getD k [] = (g k).2.2 := fun k hk => by
      rw [List.getD_eq_getElem?_getD]
      simp [hk]
    refine ⟨some a, m, (List.range len0).map fun i => (g i).2.2, by simp, by simpa using hl, hm, (fun h => by cases h), (fun hne => ?_), fun k hk => ?_⟩
    · have hpos : 0 < len0 := by
        rcases Nat.eq_zero_or_pos len0 with h0 | h0
        · subst h0; simp at hne
        · exact h0
      obtain ⟨b, off, spot⟩ := a
      have hspot : spot = none := by simpa [Addr.add] using World.cell?_spot (hg 0 hpos).1
      subst hspot
      refine ⟨b, off, rfl, fun k hk => ?_⟩
      have hk' : k < len0 := by simpa using hk
      rw [hget k hk']
      obtain ⟨h1, h2, _⟩ := hg k hk'
      rw [Go.WideShapes.add_plain] at h1
      exact ⟨(g k).1, (g k).2.1, h1, h2⟩
    · have hk' : k < len0 := by simpa using hk
      rw [hget k hk']
      obtain ⟨_, _, h3⟩ := hg k hk'
      rcases h3 with h3 | ⟨e', sp', h3, h4⟩
      · exact .inl h3
      · refine .inr ⟨_, _, e', sp', hx.1, ?_, h4⟩
        rw [← h3]
        exact List.mem_map.2 ⟨k, List.mem_range.2 hk', rfl⟩

theorem weightsAll_flat (e : TypeId) : ∀ l : List (DataW H), DataW.weightsAll P e l = l.flatMap (DataW.weights P e)
  | [] => rfl
  | d :: r => by rw [List.flatMap_cons, ← weightsAll_flat e r]; rfl
/-- How long a row inside a slice of slices can be. -/
theorem sized_in {ts : List TypeId} {ds : List (DataW H)} (h : (DataW.weightsEach P ts ds).all (· ≤ reachBytes) = true) {j : Nat} {t e q : TypeId} {elems spare e' sp' : List (DataW H)}
    (ht : ts[j]? = some t) (hd : ds[j]? = some (.slice elems spare)) (hu : P.underlying t = some (.slice e)) (hu2 : P.underlying e = some (.slice q)) (hx : DataW.slice e' sp' ∈ elems) : (e'.length + sp'.length) * P.bytesOf q ≤ reachBytes := by
  have hin : (e'.length + sp'.length) * P.bytesOf q ∈ DataW.weights P e (.slice e' sp') := by unfold DataW.weights; rw [hu2]; exact List.mem_cons_self ..
  have hout : (e'.length + sp'.length) * P.bytesOf q ∈ DataW.weights P t (.slice elems spare) := by
    unfold DataW.weights
    rw [hu]
    refine List.mem_cons_of_mem _ (List.mem_append_left _ ?_)
    rw [weightsAll_flat]
    exact List.mem_flatMap.2 ⟨_, hx, hin⟩
  simpa using List.all_eq_true.1 h _ (DataW.weights_mem_each ht hd _ hout)
end

end Go.Proofs.Ytnnmcnbpnfegpaa
