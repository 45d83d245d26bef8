/-
  A slice of slices of bytes as an argument, opened.
-/
import Derived.Test.YtobgbaejdamecaaDoorOpen
import Derived.Test.YtobgbaejdamecaaDoorByPlain
import Derived.Test.YtobgbaejdamecaaDoorFrCut
namespace Go.Proofs.YtobgbaejdamecaaDoor
open Go.ChangeShapes Go.WideShapes Go.RowKit Go.Deep

section
variable {H : Type} {enc : TypeId × Value → H} {w : World}
/-- A slice whose elements' cells are known by 'f', at its own cell; and something of each element. -/
theorem open_list_of {P : Program} {α : Type} (z : α) (f : α → List Value) (good : α → Prop) {size : Nat} (hf : ∀ a, (f a).length = size) {t e : TypeId} {fuel0 : Nat} {cs0 : List Value} {y : DataW H × List MemPlace}
    (ht : P.underlying t = some (.slice e)) (hC : P.cellsOf e = size) (hsz : 0 < size)
    (helem : ∀ (fuel : Nat) (cs : List Value) (x : DataW H × List MemPlace), DataW.trod enc P w 0 (fun _ => true) true fuel e cs = some x → ∃ a, cs = f a ∧ good a)
    (hfu : DataW.trod enc P w 0 (fun _ => true) true fuel0 t cs0 = some y) :
    ∃ (A : Option Addr) (cap : Nat) (l : List α), cs0 = [.slice A l.length cap] ∧ l.length ≤ cap ∧ cap ≤ maxLen ∧ (A = none → l.length = 0 ∧ cap = 0) ∧ Lies w A (l.flatMap f) ∧ (∀ a ∈ l, good a) := by
  rcases open_slice ht hfu with ⟨hcs, hx⟩ | ⟨a, len, cap, m, n, D, Pl, hcs, _, hl, hm, hmm, hx, hi⟩
  · subst hcs hx
    exact ⟨none, 0, [], rfl, Nat.le_refl _, Nat.zero_le _, fun _ => ⟨rfl, rfl⟩, Lies.nil, (fun _ h => by cases h)⟩
  · simp at hmm
    subst hmm
    obtain ⟨g, hg⟩ := pick (n := len) (p := fun i s => good s ∧ ∀ j, j < size → w.cell? (a.add (i * size + j)) = (f s)[j]?) z (fun i hi' => by
      obtain ⟨cs', hc, ht'⟩ := hi i (by omega)
      rw [hC] at hc
      obtain ⟨s, rfl, hs⟩ := helem _ _ _ ht'
      obtain ⟨_, _, hcell⟩ := World.cells?_some hc
      refine ⟨s, hs, fun j hj => ?_⟩
      rw [← hcell j hj, Go.Deep.add_add])
    refine ⟨some a, m, (List.range len).map g, by simpa using hcs, by simpa using hl, hm, (fun h => by cases h), (fun hne => ?_), ?_⟩
    · have hpos : 0 < len := by
        rcases Nat.eq_zero_or_pos len with h0 | h0
        · subst h0; simp at hne
        · exact h0
      obtain ⟨b, off, spot⟩ := a
      have h00 := (hg 0 hpos).2 0 hsz
      have hspot : spot = none := by
        have hlen := hf (g 0)
        rw [List.getElem?_eq_getElem (by omega)] at h00
        simpa [Addr.add] using World.cell?_spot h00
      subst hspot
      refine ⟨b, off, rfl, fun j u hu => ?_⟩
      obtain ⟨i, r, s, h1, h2, h3, h4⟩ := flat_get f hf _ j u hu
      have hil : i < len := by
        have := (List.getElem?_eq_some_iff.1 h1).1
        simpa using this
      simp [hil] at h1
      subst h1
      rw [← Go.WideShapes.add_plain, h3, (hg i hil).2 r h2]
      exact h4
    · intro s hs
      simp at hs
      obtain ⟨i, hil, rfl⟩ := hs
      exact (hg i hil).1

theorem bytes_at {P : Program} {fuel : Nat} {t e : TypeId} {cs : List Value} {x : DataW H × List MemPlace} (ht : P.underlying t = some (.slice e)) (hi : P.underlying e = some (.int .u8)) (hC : P.cellsOf e = 1) (h : DataW.trod enc P w 0 (fun _ => true) true fuel t cs = some x) : ∃ A c l, cs = [.slice A (List.length l) c] ∧ OneB w A c l := by
  obtain ⟨A, c, l, h1, h2, h3, h4, h5, h6⟩ := open_list_of (0 : Int) (fun n => [Value.int .u8 n]) isB (size := 1) (fun _ => rfl) ht hC (by decide) (fun fuel cs x hx => by
    obtain ⟨a, e0, rfl, wa⟩ := DataW.trod_int hi hx
    refine ⟨a, e0, ?_⟩
    have hb : IntKind.u8.min ≤ a ∧ a ≤ IntKind.u8.max := by simpa [Lit.wf] using wa
    have e1 : IntKind.u8.min = 0 := by decide
    have e2 : IntKind.u8.max = 255 := by decide
    rw [e1, e2] at hb
    exact ⟨hb.1, by omega⟩) h
  have hfl : ∀ l : List Int, l.flatMap (fun n => [Value.int .u8 n]) = bCells l := fun l => by
    induction l with
    | nil => rfl
    | cons s r ih =>
      rw [List.flatMap_cons, ih]
      rfl
  rw [hfl] at h5
  exact ⟨A, c, l, h1, ⟨h2, h3, h4, h5, h6⟩⟩
/-- A slice of slices of bytes as an argument. -/
theorem open_brows {P : Program} {r : Reach} {b0 : Nat} {tt t e : TypeId} {v : Value} {d : DataW H} {p : List MemPlace}
    (htt : P.underlying tt = some (.slice t)) (hCt : P.cellsOf t = 1) (ht : P.underlying t = some (.slice e)) (hi : P.underlying e = some (.int .u8)) (hC : P.cellsOf e = 1)
    (hv : Value.okWide P w r b0 tt v) (h : DataW.Trod enc P w 0 (fun _ => true) true tt v d p) :
    ∃ (A : Option Addr) (cap : Nat) (ls : List (List Int)), v = .slice A ls.length cap ∧ RowB w A cap ls := by
  obtain ⟨a0, len0, cap0, rfl⟩ := okWide_slice htt hv
  obtain ⟨fuel, hfu⟩ := h
  rcases open_slice1 htt hCt hfu with ⟨hcs, hx⟩ | ⟨a, len, cap, m, n, V, D, Pl, hcs, _, hl, hm, hmm, hx, hin⟩
  · simp [Value.cells] at hcs hx
    obtain ⟨rfl, rfl, rfl⟩ := hcs
    exact ⟨none, 0, [], rfl, ⟨Nat.le_refl _, Nat.zero_le _, fun _ => ⟨rfl, rfl⟩, fun h => absurd rfl h⟩⟩
  · simp [Value.cells] at hcs hx hmm
    obtain ⟨rfl, rfl, rfl⟩ := hcs
    subst hmm
    obtain ⟨g, hg⟩ := pick (n := len0) (p := fun i (x : Option Addr × Nat × List Int) => w.cell? (a.add i) = some (.slice x.1 x.2.2.length x.2.1) ∧ OneB w x.1 x.2.1 x.2.2) (none, 0, []) (fun i hi' => by
      obtain ⟨h1, h2⟩ := hin i (by omega)
      obtain ⟨A, c, l, e1, e2⟩ := bytes_at ht hi hC h2
      injection e1 with e1
      exact ⟨(A, c, l), by rw [h1, e1], e2⟩)
    have hget : ∀ k, k < len0 → ((List.range len0).map fun i => (g i).2.2).getD k [] = (g k).2.2 := fun k hk => by
      rw [List.getD_eq_getElem?_getD]
      simp [hk]
    refine ⟨some a, m, (List.range len0).map fun i => (g i).2.2, by simp, ⟨by simpa using hl, hm, (fun h => by cases h), (fun hne => ?_)⟩⟩
    have hpos : 0 < len0 := by
      rcases Nat.eq_zero_or_pos len0 with h0 | h0
      · subst h0; simp at hne
      · exact h0
    obtain ⟨b, off, spot⟩ := a
    have hspot : spot = none := by simpa [Addr.add] using World.cell?_spot (hg 0 hpos).1
    subst hspot
    refine ⟨b, off, rfl, fun k hk => ?_⟩
    have hk' : k < len0 := by simpa using hk
    rw [hget k hk']
    obtain ⟨h1, h2⟩ := hg k hk'
    rw [Go.WideShapes.add_plain] at h1
    exact ⟨(g k).1, (g k).2.1, h1, h2⟩
end
end Go.Proofs.YtobgbaejdamecaaDoor
