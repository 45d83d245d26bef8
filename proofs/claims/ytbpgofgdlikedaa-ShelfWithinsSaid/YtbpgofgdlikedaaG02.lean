/-
  Plain mathematics of version vectors: the counts of the nodes in a list of stamps, and arrays of 64 numbers. Nothing of the program is imported.
  A slice of slices of stamps in memory; the greatest and the least counts of many lists. Nothing of the program is imported.
  A slice of slices of stamps as an argument, opened.
  Plain mathematics of version vectors, part 2: the counts of a vector made of counts, joins and meets of two and of one, what covers what. Nothing of the program is imported.
-/
import Derived.Test.YtbpgofgdlikedaaG01
import Derived.SizedLaws
namespace Go.Proofs.Ytbpgofgdlikedaa
namespace Ve

/-- The count of a node in a list: that of its first right stamp of that node; 0 if there is none. -/
def cnt : List (Int × Int) → Nat → Int
  | [], _ => 0
  | s :: r, n => if St.rgt s.1 s.2 = true ∧ s.2 = (n : Int) then s.1 else cnt r n

/-- An array of 64 numbers, as cells. -/
def arr (f : Nat → Int) : Array Value := ((List.range 64).map fun i => Value.int .i64 (f i)).toArray
theorem arr_size (f : Nat → Int) : (arr f).size = 64 := by simp [arr]
theorem arr_get (f : Nat → Int) (i : Nat) (h : i < 64) : (arr f)[i]? = some (.int .i64 (f i)) := by simp [arr, h]
theorem arr_ext {f g : Nat → Int} (h : ∀ i, i < 64 → f i = g i) : arr f = arr g := by
  unfold arr
  congr 1
  apply List.map_congr_left
  intro i hi
  rw [h i (List.mem_range.1 hi)]
theorem arr_set (f : Nat → Int) (i : Nat) (x : Int) (_h : i < 64) : (arr f).setIfInBounds i (.int .i64 x) = arr (fun j => if j = i then x else f j) := by
  apply Array.ext_getElem?
  intro j
  by_cases hj : j < 64
  · rw [arr_get _ j hj, Array.getElem?_setIfInBounds]
    by_cases e : i = j
    · subst e
      rw [if_pos rfl, if_pos (by rw [arr_size]; exact hj), if_pos rfl]
    · rw [if_neg e, arr_get _ j hj, if_neg (fun h => e h.symm)]
  · rw [Array.getElem?_eq_none (by rw [Array.size_setIfInBounds, arr_size]; omega), Array.getElem?_eq_none (by rw [arr_size]; omega)]
theorem arr_zero : arr (fun _ => 0) = #[.int .i64 0, .int .i64 0, .int .i64 0, .int .i64 0, .int .i64 0, .int .i64 0, .int .i64 0, .int .i64 0, .int .i64 0, .int .i64 0, .int .i64 0, .int .i64 0, .int .i64 0, .int .i64 0, .int .i64 0, .int .i64 0,
    .int .i64 0, .int .i64 0, .int .i64 0, .int .i64 0, .int .i64 0, .int .i64 0, .int .i64 0, .int .i64 0, .int .i64 0, .int .i64 0, .int .i64 0, .int .i64 0, .int .i64 0, .int .i64 0, .int .i64 0, .int .i64 0,
    .int .i64 0, .int .i64 0, .int .i64 0, .int .i64 0, .int .i64 0, .int .i64 0, .int .i64 0, .int .i64 0, .int .i64 0, .int .i64 0, .int .i64 0, .int .i64 0, .int .i64 0, .int .i64 0, .int .i64 0, .int .i64 0,
    .int .i64 0, .int .i64 0, .int .i64 0, .int .i64 0, .int .i64 0, .int .i64 0, .int .i64 0, .int .i64 0, .int .i64 0, .int .i64 0, .int .i64 0, .int .i64 0, .int .i64 0, .int .i64 0, .int .i64 0, .int .i64 0] := by rfl
theorem cnt_drop (l : List (Int × Int)) (k : Nat) (h : k < l.length) (n : Nat) : cnt (l.drop k) n = if St.rgt l[k].1 l[k].2 = true ∧ l[k].2 = (n : Int) then l[k].1 else cnt (l.drop (k + 1)) n := by
  rw [List.drop_eq_getElem_cons h]
  rfl

/-- The vector of counts, up to node k. -/
def ofTo (f : Nat → Int) : Nat → List (Int × Int)
  | 0 => []
  | k + 1 => ofTo f k ++ (if 0 < f k then [(f k, (k : Int))] else [])
theorem ofTo_len (f : Nat → Int) : ∀ k, (ofTo f k).length ≤ k
  | 0 => Nat.le_refl _
  | k + 1 => by
    have := ofTo_len f k
    unfold ofTo
    split <;> simp <;> omega
def ofL (f : Nat → Int) : List (Int × Int) := ofTo f 64
theorem ofL_len (f : Nat → Int) : (ofL f).length ≤ 64 := ofTo_len f 64
theorem ofTo_ext {f g : Nat → Int} : ∀ k, (∀ i, i < k → f i = g i) → ofTo f k = ofTo g k
  | 0, _ => rfl
  | k + 1, h => by
    unfold ofTo
    rw [ofTo_ext k (fun i hi => h i (by omega)), h k (by omega)]
theorem ofL_ext {f g : Nat → Int} (h : ∀ i, i < 64 → f i = g i) : ofL f = ofL g := ofTo_ext 64 h

/-- Is no count of g greater, up to node k? -/
def covTo (f g : Nat → Int) (k : Nat) : Prop := ∀ n, n < k → g n ≤ f n
def cov (f g : Nat → Int) : Bool := decide (∀ n : Fin 64, g n ≤ f n)
theorem cov_iff (f g : Nat → Int) : cov f g = true ↔ covTo f g 64 := by
  unfold cov covTo
  rw [decide_eq_true_iff]
  exact ⟨fun h n hn => h ⟨n, hn⟩, fun h n => h n.val n.isLt⟩
theorem cov_no {f g : Nat → Int} (k : Nat) (hk : k < 64) (h : f k < g k) : cov f g = false := by
  cases hc : cov f g with
  | false => rfl
  | true => have := (cov_iff f g).1 hc k hk; omega
/-- How two stand. -/
def stand (f g : Nat → Int) : Int := if cov f g = true then (if cov g f = true then 0 else 2) else (if cov g f = true then 1 else 3)
theorem stand_eq (f g : Nat → Int) : stand f g = if cov f g = true then (if cov g f = true then 0 else 2) else (if cov g f = true then 1 else 3) := rfl
/-- The greatest count, up to node k. -/
def topTo (f : Nat → Int) : Nat → Int
  | 0 => 0
  | k + 1 => if topTo f k < f k then f k else topTo f k
def top (f : Nat → Int) : Int := topTo f 64
theorem cnt_nonneg (l : List (Int × Int)) (n : Nat) : 0 ≤ cnt l n := by
  induction l with
  | nil => exact Int.le_refl _
  | cons s r ih =>
    unfold cnt
    split
    · rename_i h
      have : 1 ≤ s.1 := by have := h.1; unfold St.rgt at this; exact (of_decide_eq_true this).1
      omega
    · exact ih
/-- Is it a vector? -/
def formed : List (Int × Int) → Bool
  | [] => true
  | [s] => St.rgt s.1 s.2
  | s :: t :: r => St.rgt s.1 s.2 && decide (s.2 < t.2) && formed (t :: r)

end Ve
end Go.Proofs.Ytbpgofgdlikedaa
namespace Go.Proofs.Ytbpgofgdlikedaa
open Go.RowKit

/-- A list of stamps by value: its length, its room, its cells. -/
def OneL (w : World) (A : Option Addr) (c : Nat) (l : List (Int × Int)) : Prop := l.length ≤ c ∧ c ≤ maxLen ∧ (A = none → l.length = 0 ∧ c = 0) ∧ Lies w A (stCells l)
section
variable {w w' : World} {A : Option Addr} {c : Nat} {l : List (Int × Int)}
theorem OneL.later (h : OneL w A c l) (hb : Below w.heap.size w w') : OneL w' A c l := ⟨h.1, h.2.1, h.2.2.1, h.2.2.2.later hb⟩
theorem OneL.len (h : OneL w A c l) : l.length ≤ 9223372036854775807 := by
  have h1 := h.1
  have h2 := h.2.1
  unfold maxLen at h2
  omega
theorem OneL.stamps (h : OneL w A c l) : Stamps w A l := Stamps.of_lies h.2.2.2
theorem OneL.nil : OneL w none 0 [] := ⟨Nat.le_refl _, Nat.zero_le _, fun _ => ⟨rfl, rfl⟩, Lies.nil⟩
theorem OneL.of_own {base : Nat} {e : TypeId} {v : Value} (h : w.ownsRow base e 2 v l.length (stCells l)) : ∃ A c, v = .slice A l.length c ∧ OneL w A c l := by
  obtain ⟨A, c, h1, h2, h3, h4, h5⟩ := own_form h
  exact ⟨A, c, h1, h2, h3, h4, h5⟩
end

/-- A slice of lists of stamps in memory. -/
def Rows (w : World) (A : Option Addr) (ls : List (List (Int × Int))) : Prop :=
  ls ≠ [] → ∃ b off, A = some ⟨b, off, none⟩ ∧ ∀ k, k < ls.length → ∃ A' c', w.cell? ⟨b, off + k, none⟩ = some (.slice A' (ls.getD k []).length c') ∧ OneL w A' c' (ls.getD k [])
theorem Rows.later {w w' : World} {A : Option Addr} {ls : List (List (Int × Int))} (h : Rows w A ls) (hb : Below w.heap.size w w') : Rows w' A ls := fun hne => by
  obtain ⟨b, off, hA, hc⟩ := h hne
  refine ⟨b, off, hA, fun k hk => ?_⟩
  obtain ⟨A', c', h1, h2⟩ := hc k hk
  exact ⟨A', c', (hb.cell (World.block_lt_of_cell? w _ h1)).trans h1, h2.later hb⟩
theorem Rows.nil {w : World} {A : Option Addr} : Rows w A [] := fun h => absurd rfl h
theorem Rows.len {w : World} {A : Option Addr} {ls : List (List (Int × Int))} (h : Rows w A ls) : ∀ k, k < ls.length → (ls.getD k []).length ≤ 9223372036854775807 := fun k hk => by
  obtain ⟨_, _, _, hc⟩ := h (fun e => by subst e; simp at hk)
  obtain ⟨_, _, _, h2⟩ := hc k hk
  exact h2.len

namespace Ve
/-- The greatest counts of the first k lists. -/
def jnTo (ls : List (List (Int × Int))) : Nat → Nat → Int
  | 0, _ => 0
  | k + 1, n => if jnTo ls k n < cnt (ls.getD k []) n then cnt (ls.getD k []) n else jnTo ls k n
def jn (ls : List (List (Int × Int))) : Nat → Int := jnTo ls ls.length
theorem jnTo_nonneg (ls : List (List (Int × Int))) : ∀ k n, 0 ≤ jnTo ls k n
  | 0, _ => Int.le_refl _
  | k + 1, n => by
    unfold jnTo
    split
    · exact cnt_nonneg _ _
    · exact jnTo_nonneg ls k n
/-- Half of a round: the greater ones, up to node n. -/
def mxTo (f g : Nat → Int) (n : Nat) : Nat → Int := fun j => if j < n then (if f j < g j then g j else f j) else f j
/-- The least counts of the first k + 1 lists. -/
def mtTo (ls : List (List (Int × Int))) : Nat → Nat → Int
  | 0, n => cnt (ls.getD 0 []) n
  | k + 1, n => if cnt (ls.getD (k + 1) []) n < mtTo ls k n then cnt (ls.getD (k + 1) []) n else mtTo ls k n
def mt (ls : List (List (Int × Int))) : Nat → Int := mtTo ls (ls.length - 1)
def mnTo (f g : Nat → Int) (n : Nat) : Nat → Int := fun j => if j < n then (if g j < f j then g j else f j) else f j
theorem mtTo_nonneg (ls : List (List (Int × Int))) : ∀ k n, 0 ≤ mtTo ls k n
  | 0, n => cnt_nonneg _ _
  | k + 1, n => by
    unfold mtTo
    split
    · exact cnt_nonneg _ _
    · exact mtTo_nonneg ls k n
theorem mx_step (f g : Nat → Int) (n : Nat) (x : Int) (h : x = if f n < g n then g n else f n) (i : Nat) : (if i = n then x else mxTo f g n i) = mxTo f g (n + 1) i := by
  unfold mxTo
  by_cases e : i = n
  · subst e
    rw [if_pos rfl, if_pos (Nat.lt_succ_self _), h]
  · rw [if_neg e]
    by_cases e2 : i < n
    · rw [if_pos e2, if_pos (show i < n + 1 by omega)]
    · rw [if_neg e2, if_neg (show ¬ i < n + 1 by omega)]
theorem mn_step (f g : Nat → Int) (n : Nat) (x : Int) (h : x = if g n < f n then g n else f n) (i : Nat) : (if i = n then x else mnTo f g n i) = mnTo f g (n + 1) i := by
  unfold mnTo
  by_cases e : i = n
  · subst e
    rw [if_pos rfl, if_pos (Nat.lt_succ_self _), h]
  · rw [if_neg e]
    by_cases e2 : i < n
    · rw [if_pos e2, if_pos (show i < n + 1 by omega)]
    · rw [if_neg e2, if_neg (show ¬ i < n + 1 by omega)]
/-- The meet of lists, as stamps: none of none. -/
def meetL (ls : List (List (Int × Int))) : List (Int × Int) := if ls = [] then [] else ofL (mt ls)
def joinL (ls : List (List (Int × Int))) : List (Int × Int) := ofL (jn ls)
end Ve
end Go.Proofs.Ytbpgofgdlikedaa
namespace Go.Proofs.Ytbpgofgdlikedaa
open Go.ChangeShapes Go.WideShapes Go.RowKit Go.Deep

section
variable {H : Type} {enc : TypeId × Value → H} {P : Program} {w : World}

/-- A slice whose elements' cells are known by 'f', at its own cell. -/
theorem open_list_at {α : Type} (z : α) (f : α → List Value) {size : Nat} (hf : ∀ a, (f a).length = size) {t e : TypeId} {fuel0 : Nat} {cs0 : List Value} {y : DataW H × List MemPlace}
    (ht : P.underlying t = some (.slice e)) (hC : P.cellsOf e = size) (hsz : 0 < size)
    (helem : ∀ (fuel : Nat) (cs : List Value) (x : DataW H × List MemPlace), DataW.trod enc P w 0 (fun _ => true) true fuel e cs = some x → ∃ a, cs = f a)
    (hfu : DataW.trod enc P w 0 (fun _ => true) true fuel0 t cs0 = some y) :
    ∃ (A : Option Addr) (cap : Nat) (l : List α), cs0 = [.slice A l.length cap] ∧ l.length ≤ cap ∧ cap ≤ maxLen ∧ (A = none → l.length = 0 ∧ cap = 0) ∧ Lies w A (l.flatMap f) ∧
      ((y.1 = .nil ∧ l.length = 0 ∧ cap = 0) ∨ ∃ elems spare, y.1 = .slice elems spare ∧ elems.length = l.length ∧ elems.length + spare.length = cap) := by
  rcases open_slice ht hfu with ⟨hcs, hx⟩ | ⟨a, len, cap, m, n, D, Pl, hcs, _, hl, hm, hmm, hx, hi⟩
  · subst hcs hx
    exact ⟨none, 0, [], rfl, Nat.le_refl _, Nat.zero_le _, fun _ => ⟨rfl, rfl⟩, Lies.nil, .inl ⟨rfl, rfl, rfl⟩⟩
  · simp at hmm
    subst hmm
    obtain ⟨g, hg⟩ := pick (n := len) (p := fun i s => ∀ j, j < size → w.cell? (a.add (i * size + j)) = (f s)[j]?) z (fun i hi' => by
      obtain ⟨cs', hc, ht'⟩ := hi i (by omega)
      rw [hC] at hc
      obtain ⟨s, rfl⟩ := helem _ _ _ ht'
      obtain ⟨_, _, hcell⟩ := World.cells?_some hc
      refine ⟨s, fun j hj => ?_⟩
      rw [← hcell j hj, Go.Deep.add_add])
    refine ⟨some a, m, (List.range len).map g, by simpa using hcs, by simpa using hl, hm, (fun h => by cases h), (fun hne => ?_), .inr ⟨_, _, by rw [hx], by simp, by simp; omega⟩⟩
    have hpos : 0 < len := by
      rcases Nat.eq_zero_or_pos len with h0 | h0
      · subst h0; simp at hne
      · exact h0
    obtain ⟨b, off, spot⟩ := a
    have h00 := hg 0 hpos 0 hsz
    have hspot : spot = none := by
      have hlen := hf (g 0)
      rw [List.getElem?_eq_getElem (by omega)] at h00
      simpa [Addr.add] using World.cell?_spot h00
    subst hspot
    refine ⟨b, off, rfl, fun j u hu => ?_⟩
    obtain ⟨i, r, s, h1, h2, h3, h4⟩ := flat_get f hf _ j u hu
    have hil : i < len := by
      have := (List.getElem?_eq_some_iff.1 h1).1
      simpa using this
    simp [hil] at h1
    subst h1
    rw [← Go.WideShapes.add_plain, h3, hg i hil r h2]
    exact h4

/-- A slice of slices of stamps. -/
theorem open_rows {r : Reach} {b0 : Nat} {tt t e ti : TypeId} {f0 f1 : Field} {v : Value} {d : DataW H} {p : List MemPlace}
    (htt : P.underlying tt = some (.slice t)) (hCt : P.cellsOf t = 1)
    (ht : P.underlying t = some (.slice e)) (hs : P.underlying e = some (.struct #[f0, f1])) (hone : Deep.oneCellFields P #[f0, f1] = true) (hC : P.cellsOf e = 2) (hi0 : f0.type = ti) (hi1 : f1.type = ti) (hi : P.underlying ti = some (.int .i64))
    (hv : Value.okWide P w r b0 tt v) (h : DataW.Trod enc P w 0 (fun _ => true) true tt v d p) :
    ∃ (A : Option Addr) (cap : Nat) (ls : List (List (Int × Int))), v = .slice A ls.length cap ∧ ls.length ≤ cap ∧ cap ≤ maxLen ∧ (A = none → ls.length = 0 ∧ cap = 0) ∧ Rows w A ls ∧
      ∀ k, k < ls.length → (ls.getD k []).length = 0 ∨ ∃ elems spare e' sp', d = .slice elems spare ∧ DataW.slice e' sp' ∈ elems ∧ e'.length = (ls.getD k []).length := by
  obtain ⟨a0, len0, cap0, rfl⟩ := okWide_slice htt hv
  obtain ⟨fuel, hfu⟩ := h
  rcases open_slice1 htt hCt hfu with ⟨hcs, hx⟩ | ⟨a, len, cap, m, n, V, D, Pl, hcs, _, hl, hm, hmm, hx, hin⟩
  · simp [Value.cells] at hcs hx
    obtain ⟨rfl, rfl, rfl⟩ := hcs
    exact ⟨none, 0, [], rfl, Nat.le_refl _, Nat.zero_le _, fun _ => ⟨rfl, rfl⟩, Rows.nil, fun k hk => by simp at hk⟩
  · simp [Value.cells] at hcs hx hmm
    obtain ⟨rfl, rfl, rfl⟩ := hcs
    subst hmm
    obtain ⟨g, hg⟩ := pick (n := len0) (p := fun i (x : Option Addr × Nat × List (Int × Int)) => w.cell? (a.add i) = some (.slice x.1 x.2.2.length x.2.1) ∧ OneL w x.1 x.2.1 x.2.2 ∧
        (x.2.2.length = 0 ∨ ∃ e' sp', D i = .slice e' sp' ∧ e'.length = x.2.2.length)) (none, 0, []) (fun i hi' => by
      obtain ⟨h1, h2⟩ := hin i (by omega)
      obtain ⟨A, c, l, e1, e2, e3, e4, e5, e6⟩ := open_list_at (0, 0) stCell (size := 2) (fun _ => rfl) ht hC (by decide) (fun fuel cs x hx => by
        obtain ⟨c, n, rfl, _⟩ := stamp_cells hs hone hC hi0 hi1 hi hx
        exact ⟨(c, n), rfl⟩) h2
      rw [stCells_flat] at e5
      injection e1 with e1
      refine ⟨(A, c, l), by rw [h1, e1], ⟨e2, e3, e4, e5⟩, ?_⟩
      rcases e6 with ⟨_, e6, _⟩ | ⟨el, sp, e6, e7, _⟩
      · exact .inl e6
      · exact .inr ⟨el, sp, e6, e7⟩)
    have hget : ∀ k, k < len0 → ((List.range len0).map fun i => (g i).2.2).getD k [] = (g k).2.2 := fun k hk => by
      rw [List.getD_eq_getElem?_getD]
      simp [hk]
    refine ⟨some a, m, (List.range len0).map fun i => (g i).2.2, by simp, by simpa using hl, hm, (fun h => by cases h), (fun hne => ?_), fun k hk => ?_⟩
    · have hpos : 0 < len0 := by
        rcases Nat.eq_zero_or_pos len0 with h0 | h0
        · subst h0; simp at hne
        · exact h0
      obtain ⟨b, off, spot⟩ := a
      have hspot : spot = none := by simpa [Addr.add] using World.cell?_spot (hg 0 hpos).1
      subst hspot
      refine ⟨b, off, rfl, fun k hk => ?_⟩
      have hk' : k < len0 := by simpa using hk
      rw [hget k hk']
      obtain ⟨h1, h2, _⟩ := hg k hk'
      rw [Go.WideShapes.add_plain] at h1
      exact ⟨(g k).1, (g k).2.1, h1, h2⟩
    · have hk' : k < len0 := by simpa using hk
      rw [hget k hk']
      obtain ⟨_, _, h3⟩ := hg k hk'
      rcases h3 with h3 | ⟨e', sp', h3, h4⟩
      · exact .inl h3
      · refine .inr ⟨_, _, e', sp', hx.1, ?_, h4⟩
        rw [← h3]
        exact List.mem_map.2 ⟨k, List.mem_range.2 hk', rfl⟩

theorem weightsAll_flat (e : TypeId) : ∀ l : List (DataW H), DataW.weightsAll P e l = l.flatMap (DataW.weights P e)
  | [] => rfl
  | d :: r => by rw [List.flatMap_cons, ← weightsAll_flat e r]; rfl
/-- How long a row inside a slice of slices can be. -/
theorem sized_in {ts : List TypeId} {ds : List (DataW H)} (h : (DataW.weightsEach P ts ds).all (· ≤ reachBytes) = true) {j : Nat} {t e q : TypeId} {elems spare e' sp' : List (DataW H)}
    (ht : ts[j]? = some t) (hd : ds[j]? = some (.slice elems spare)) (hu : P.underlying t = some (.slice e)) (hu2 : P.underlying e = some (.slice q)) (hx : DataW.slice e' sp' ∈ elems) : (e'.length + sp'.length) * P.bytesOf q ≤ reachBytes := by
  have hin : (e'.length + sp'.length) * P.bytesOf q ∈ DataW.weights P e (.slice e' sp') := by unfold DataW.weights; rw [hu2]; exact List.mem_cons_self ..
  have hout : (e'.length + sp'.length) * P.bytesOf q ∈ DataW.weights P t (.slice elems spare) := by
    unfold DataW.weights
    rw [hu]
    refine List.mem_cons_of_mem _ (List.mem_append_left _ ?_)
    rw [weightsAll_flat]
    exact List.mem_flatMap.2 ⟨_, hx, hin⟩
  simpa using List.all_eq_true.1 h _ (DataW.weights_mem_each ht hd _ hout)
end

end Go.Proofs.Ytbpgofgdlikedaa
namespace Go.Proofs.Ytbpgofgdlikedaa
namespace Ve

theorem ofTo_mem (f : Nat → Int) : ∀ k (s : Int × Int), s ∈ ofTo f k → ∃ n : Nat, n < k ∧ s = (f n, (n : Int)) ∧ 0 < f n
  | 0, s, h => by simp [ofTo] at h
  | k + 1, s, h => by
    unfold ofTo at h
    rw [List.mem_append] at h
    rcases h with h | h
    · obtain ⟨n, hn, hs⟩ := ofTo_mem f k s h
      exact ⟨n, by omega, hs⟩
    · split at h
      · rename_i hp
        rw [List.mem_singleton] at h
        exact ⟨k, by omega, h, hp⟩
      · simp at h
theorem cnt_append (l r : List (Int × Int)) (n : Nat) : cnt (l ++ r) n = if (∃ s ∈ l, St.rgt s.1 s.2 = true ∧ s.2 = (n : Int)) then cnt l n else cnt r n := by
  induction l with
  | nil => simp
  | cons s l ih =>
    rw [List.cons_append]
    by_cases h : St.rgt s.1 s.2 = true ∧ s.2 = (n : Int)
    · rw [if_pos ⟨s, List.mem_cons_self .., h⟩]
      unfold cnt
      rw [if_pos h, if_pos h]
    · have e1 : cnt (s :: (l ++ r)) n = cnt (l ++ r) n := by rw [cnt, if_neg h]
      have e2 : cnt (s :: l) n = cnt l n := by rw [cnt, if_neg h]
      rw [e1, e2, ih]
      by_cases hx : ∃ s ∈ l, St.rgt s.1 s.2 = true ∧ s.2 = (n : Int)
      · obtain ⟨t, ht, hp⟩ := hx
        rw [if_pos ⟨t, ht, hp⟩, if_pos ⟨t, List.mem_cons_of_mem _ ht, hp⟩]
      · rw [if_neg hx, if_neg (fun ⟨t, ht, hp⟩ => by
          rcases List.mem_cons.1 ht with rfl | ht
          · exact h hp
          · exact hx ⟨t, ht, hp⟩)]
theorem rgt_of (c : Int) (n : Nat) (hc : 0 < c) (hn : n < 64) : St.rgt c (n : Int) = true := by
  unfold St.rgt
  exact decide_eq_true ⟨by omega, by omega, by omega⟩
theorem cnt_ofTo (f : Nat → Int) (hf : ∀ n, 0 ≤ f n) : ∀ k, k ≤ 64 → ∀ n, cnt (ofTo f k) n = if n < k then f n else 0
  | 0, _, n => by simp [ofTo, cnt]
  | k + 1, hk, n => by
    have ih := cnt_ofTo f hf k (by omega) n
    unfold ofTo
    rw [cnt_append, ih]
    by_cases hx : ∃ s ∈ ofTo f k, St.rgt s.1 s.2 = true ∧ s.2 = (n : Int)
    · rw [if_pos hx]
      obtain ⟨s, hs, _, h2⟩ := hx
      obtain ⟨m, hm, rfl, _⟩ := ofTo_mem f k s hs
      have : m = n := by simp at h2; omega
      subst this
      rw [if_pos hm, if_pos (by omega)]
    · rw [if_neg hx]
      by_cases hn : n < k
      · have h0 : cnt (ofTo f k) n = 0 := by
          have := cnt_append (ofTo f k) [] n
          rw [if_neg hx, List.append_nil] at this
          rw [this]; rfl
        rw [ih, if_pos hn] at h0
        rw [if_pos (show n < k + 1 by omega), h0]
        split
        · unfold cnt
          rw [if_neg (fun h => by have := h.2; simp at this; omega)]
          rfl
        · rfl
      · by_cases e : n = k
        · subst e
          rw [if_pos (show n < n + 1 by omega)]
          split
          · rename_i hp
            unfold cnt
            rw [if_pos ⟨rgt_of _ _ hp (by omega), rfl⟩]
          · rename_i hp
            have := hf n
            unfold cnt
            omega
        · rw [if_neg (show ¬ n < k + 1 by omega)]
          split
          · unfold cnt
            rw [if_neg (fun h => by have := h.2; simp at this; omega)]
            rfl
          · rfl
theorem cnt_ofL (f : Nat → Int) (hf : ∀ n, 0 ≤ f n) (n : Nat) (hn : n < 64) : cnt (ofL f) n = f n := by
  unfold ofL
  rw [cnt_ofTo f hf 64 (Nat.le_refl _) n, if_pos hn]

/-- The vector of a vector's counts is that vector. -/
theorem ofL_cnt_ofL (f : Nat → Int) (hf : ∀ n, 0 ≤ f n) : ofL (cnt (ofL f)) = ofL f := ofL_ext (fun i hi => cnt_ofL f hf i hi)

theorem cov_ext {f f' g g' : Nat → Int} (h1 : ∀ n, n < 64 → f n = f' n) (h2 : ∀ n, n < 64 → g n = g' n) : cov f g = cov f' g' := by
  have : cov f g = true ↔ cov f' g' = true := by
    rw [cov_iff, cov_iff]
    exact ⟨fun h n hn => by rw [← h1 n hn, ← h2 n hn]; exact h n hn, fun h n hn => by rw [h1 n hn, h2 n hn]; exact h n hn⟩
  cases hx : cov f g <;> cases hy : cov f' g' <;> simp [hx, hy] at this ⊢

theorem jn_two (l r : List (Int × Int)) (n : Nat) : jn [l, r] n = if cnt l n < cnt r n then cnt r n else cnt l n := by
  have h0 : jnTo [l, r] 1 n = cnt l n := by
    have := cnt_nonneg l n
    show (if (0 : Int) < cnt l n then cnt l n else 0) = cnt l n
    split <;> omega
  show (if jnTo [l, r] 1 n < cnt r n then cnt r n else jnTo [l, r] 1 n) = _
  rw [h0]
theorem mt_two (l r : List (Int × Int)) (n : Nat) : mt [l, r] n = if cnt r n < cnt l n then cnt r n else cnt l n := rfl
theorem jn_nonneg (ls : List (List (Int × Int))) (n : Nat) : 0 ≤ jn ls n := jnTo_nonneg ls _ n
theorem mt_nonneg (ls : List (List (Int × Int))) (n : Nat) : 0 ≤ mt ls n := mtTo_nonneg ls _ n

/-- Is it a vector, up to place k? -/
def fmTo (l : List (Int × Int)) (k : Nat) : Prop := ∀ j, j < k → St.rgt (l.getD j (0, 0)).1 (l.getD j (0, 0)).2 = true ∧ (0 < j → (l.getD (j - 1) (0, 0)).2 < (l.getD j (0, 0)).2)
def fmd (l : List (Int × Int)) : Bool := decide (∀ j : Fin l.length, St.rgt (l.getD j.val (0, 0)).1 (l.getD j.val (0, 0)).2 = true ∧ (0 < j.val → (l.getD (j.val - 1) (0, 0)).2 < (l.getD j.val (0, 0)).2))
theorem fmd_iff (l : List (Int × Int)) : fmd l = true ↔ fmTo l l.length := by
  unfold fmd fmTo
  rw [decide_eq_true_iff]
  exact ⟨fun h j hj => h ⟨j, hj⟩, fun h j => h j.val j.isLt⟩
theorem fmd_no {l : List (Int × Int)} (k : Nat) (hk : k < l.length) (h : ¬ (St.rgt (l.getD k (0, 0)).1 (l.getD k (0, 0)).2 = true ∧ (0 < k → (l.getD (k - 1) (0, 0)).2 < (l.getD k (0, 0)).2))) : fmd l = false := by
  cases hc : fmd l with
  | false => rfl
  | true => exact absurd ((fmd_iff l).1 hc k hk) h

theorem getD_left (l r : List (Int × Int)) (j : Nat) (h : j < l.length) : (l ++ r).getD j (0, 0) = l.getD j (0, 0) := by
  rw [List.getD_eq_getElem?_getD, List.getD_eq_getElem?_getD, List.getElem?_append_left h]
theorem getD_last (l : List (Int × Int)) (s : Int × Int) : (l ++ [s]).getD l.length (0, 0) = s := by
  rw [List.getD_eq_getElem?_getD, List.getElem?_append_right (Nat.le_refl _), Nat.sub_self]
  rfl
theorem getD_mem (l : List (Int × Int)) (j : Nat) (h : j < l.length) : l.getD j (0, 0) ∈ l := by
  rw [List.getD_eq_getElem?_getD, List.getElem?_eq_getElem h]
  exact List.getElem_mem h
theorem fmTo_ofTo (f : Nat → Int) : ∀ k, k ≤ 64 → fmTo (ofTo f k) (ofTo f k).length
  | 0, _ => fun j hj => by simp [ofTo] at hj
  | k + 1, hk => by
    have ih := fmTo_ofTo f k (by omega)
    intro j hj
    unfold ofTo at hj ⊢
    by_cases hp : 0 < f k
    · rw [if_pos hp] at hj ⊢
      by_cases h : j < (ofTo f k).length
      · obtain ⟨h1, h2⟩ := ih j h
        rw [getD_left _ _ _ h]
        refine ⟨h1, fun h0 => ?_⟩
        rw [getD_left _ _ _ (by omega)]
        exact h2 h0
      · have e : j = (ofTo f k).length := by simp at hj; omega
        subst e
        rw [getD_last]
        refine ⟨rgt_of _ _ hp (by omega), fun h0 => ?_⟩
        rw [getD_left _ _ _ (by omega)]
        obtain ⟨n, hn, hs, _⟩ := ofTo_mem f k _ (getD_mem (ofTo f k) ((ofTo f k).length - 1) (by omega))
        rw [hs]
        show (n : Int) < (k : Int)
        omega
    · rw [if_neg hp, List.append_nil] at hj ⊢
      exact ih j hj
theorem fmd_ofL (f : Nat → Int) : fmd (ofL f) = true := (fmd_iff _).2 (fmTo_ofTo f 64 (Nat.le_refl _))

/-- The lattice's laws. -/
theorem cov_jn_left (l r : List (Int × Int)) : cov (jn [l, r]) (cnt l) = true := (cov_iff _ _).2 (fun n _ => by rw [jn_two]; split <;> omega)
theorem cov_jn_right (l r : List (Int × Int)) : cov (jn [l, r]) (cnt r) = true := (cov_iff _ _).2 (fun n _ => by rw [jn_two]; split <;> omega)
theorem cov_mt_left (l r : List (Int × Int)) : cov (cnt l) (mt [l, r]) = true := (cov_iff _ _).2 (fun n _ => by rw [mt_two]; split <;> omega)
theorem cov_mt_right (l r : List (Int × Int)) : cov (cnt r) (mt [l, r]) = true := (cov_iff _ _).2 (fun n _ => by rw [mt_two]; split <;> omega)
theorem cov_least (l r : List (Int × Int)) (f : Nat → Int) (h1 : cov f (cnt l) = true) (h2 : cov f (cnt r) = true) : cov f (jn [l, r]) = true := (cov_iff _ _).2 (fun n hn => by
  have a := (cov_iff _ _).1 h1 n hn
  have b := (cov_iff _ _).1 h2 n hn
  rw [jn_two]
  split <;> omega)
theorem cov_greatest (l r : List (Int × Int)) (f : Nat → Int) (h1 : cov (cnt l) f = true) (h2 : cov (cnt r) f = true) : cov (mt [l, r]) f = true := (cov_iff _ _).2 (fun n hn => by
  have a := (cov_iff _ _).1 h1 n hn
  have b := (cov_iff _ _).1 h2 n hn
  rw [mt_two]
  split <;> omega)
theorem jn_comm (l r : List (Int × Int)) : jn [l, r] = jn [r, l] := by
  funext n
  rw [jn_two, jn_two]
  split <;> split <;> omega
theorem mt_comm (l r : List (Int × Int)) : mt [l, r] = mt [r, l] := by
  funext n
  rw [mt_two, mt_two]
  split <;> split <;> omega
theorem joinL_comm (l r : List (Int × Int)) : joinL [l, r] = joinL [r, l] := by unfold joinL; rw [jn_comm]
theorem meetL_two (l r : List (Int × Int)) : meetL [l, r] = ofL (mt [l, r]) := by unfold meetL; rw [if_neg (by simp)]
theorem meetL_comm (l r : List (Int × Int)) : meetL [l, r] = meetL [r, l] := by rw [meetL_two, meetL_two, mt_comm]
theorem cnt_joinL (ls : List (List (Int × Int))) (n : Nat) (hn : n < 64) : cnt (joinL ls) n = jn ls n := cnt_ofL _ (jn_nonneg ls) n hn
theorem cnt_meet2 (l r : List (Int × Int)) (n : Nat) (hn : n < 64) : cnt (meetL [l, r]) n = mt [l, r] n := by
  rw [meetL_two]
  exact cnt_ofL _ (mt_nonneg [l, r]) n hn
theorem max_assoc (x y z : Int) : (if (if x < y then y else x) < z then z else (if x < y then y else x)) = (if x < (if y < z then z else y) then (if y < z then z else y) else x) := by
  by_cases h1 : x < y
  · rw [if_pos h1]
    by_cases h2 : y < z
    · rw [if_pos h2, if_pos (by omega)]
    · rw [if_neg h2, if_pos h1]
  · rw [if_neg h1]
    by_cases h2 : y < z
    · rw [if_pos h2]
    · rw [if_neg h2, if_neg h1, if_neg (by omega)]
theorem stand_assoc (a b c : List (Int × Int)) : stand (cnt (joinL [joinL [a, b], c])) (cnt (joinL [a, joinL [b, c]])) = 0 := by
  have h : ∀ n, n < 64 → cnt (joinL [joinL [a, b], c]) n = cnt (joinL [a, joinL [b, c]]) n := fun n hn => by
    rw [cnt_joinL _ n hn, cnt_joinL _ n hn, jn_two, jn_two, cnt_joinL _ n hn, cnt_joinL _ n hn, jn_two, jn_two]
    exact max_assoc _ _ _
  have h1 : cov (cnt (joinL [joinL [a, b], c])) (cnt (joinL [a, joinL [b, c]])) = true := (cov_iff _ _).2 (fun n hn => by rw [h n hn]; omega)
  have h2 : cov (cnt (joinL [a, joinL [b, c]])) (cnt (joinL [joinL [a, b], c])) = true := (cov_iff _ _).2 (fun n hn => by rw [h n hn]; omega)
  unfold stand
  rw [if_pos h1, if_pos h2]
/-- The join of a list and nothing is the vector of that list's counts. -/
theorem joinL_none (l : List (Int × Int)) : joinL [l, []] = ofL (cnt l) := ofL_ext (fun n _ => by
  rw [jn_two]
  have := cnt_nonneg l n
  show (if cnt l n < 0 then 0 else cnt l n) = cnt l n
  split <;> omega)
/-- The join of one list is the vector of that list's counts. -/
theorem joinL_one (l : List (Int × Int)) : joinL [l] = ofL (cnt l) := ofL_ext (fun n _ => by
  have := cnt_nonneg l n
  show (if (0 : Int) < cnt l n then cnt l n else 0) = cnt l n
  split <;> omega)
theorem cov_join_left (l r : List (Int × Int)) : cov (cnt (joinL [l, r])) (cnt l) = true := by rw [cov_ext (fun n hn => cnt_joinL [l, r] n hn) (fun n _ => rfl)]; exact cov_jn_left l r
theorem cov_join_right (l r : List (Int × Int)) : cov (cnt (joinL [l, r])) (cnt r) = true := by rw [cov_ext (fun n hn => cnt_joinL [l, r] n hn) (fun n _ => rfl)]; exact cov_jn_right l r
theorem cov_meet_left (l r : List (Int × Int)) : cov (cnt l) (cnt (meetL [l, r])) = true := by rw [cov_ext (fun n _ => rfl) (fun n hn => cnt_meet2 l r n hn)]; exact cov_mt_left l r
theorem cov_meet_right (l r : List (Int × Int)) : cov (cnt r) (cnt (meetL [l, r])) = true := by rw [cov_ext (fun n _ => rfl) (fun n hn => cnt_meet2 l r n hn)]; exact cov_mt_right l r
theorem cov_join_least (l r : List (Int × Int)) (f : Nat → Int) (h1 : cov f (cnt l) = true) (h2 : cov f (cnt r) = true) : cov f (cnt (joinL [l, r])) = true := by rw [cov_ext (fun n _ => rfl) (fun n hn => cnt_joinL [l, r] n hn)]; exact cov_least l r f h1 h2
theorem cov_meet_greatest (l r : List (Int × Int)) (f : Nat → Int) (h1 : cov (cnt l) f = true) (h2 : cov (cnt r) f = true) : cov (cnt (meetL [l, r])) f = true := by rw [cov_ext (fun n hn => cnt_meet2 l r n hn) (fun n _ => rfl)]; exact cov_greatest l r f h1 h2
theorem fmd_joinL (ls : List (List (Int × Int))) : fmd (joinL ls) = true := fmd_ofL _
theorem fmd_meet2 (l r : List (Int × Int)) : fmd (meetL [l, r]) = true := by rw [meetL_two]; exact fmd_ofL _

end Ve
end Go.Proofs.Ytbpgofgdlikedaa
