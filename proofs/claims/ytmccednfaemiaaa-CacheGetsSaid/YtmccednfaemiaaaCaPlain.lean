/-
  Plain mathematics of bodies in a cache: bodies where they lie, as an argument and in memory of the call's own; what is formed, got, forgotten, put. Nothing of the program is imported.
-/
import Derived.Test.YtmccednfaemiaaaBdPlain
import Derived.Test.YtmccednfaemiaaaAns
import Derived.Test.YtmccednfaemiaaaOwnPut
namespace Go.Proofs.Ytmccednfaemiaaa
open Go.RowKit

/-- A body where it lies. -/
structure Bc where
  X : Option Addr
  d : Nat
  b : Bd
def Bd.zero : Bd := ⟨0, 0, 0, []⟩
def Bc.zero : Bc := ⟨none, 0, Bd.zero⟩
namespace Ca
def cell (z : Bc) : List Value := [.int .i64 z.b.o, .int .i64 z.b.c, .int .i64 z.b.n, .slice z.X z.b.v.length z.d]
def cells (L : List Bc) : List Value := L.flatMap cell
theorem cells_cons (z : Bc) (r : List Bc) : cells (z :: r) = cell z ++ cells r := rfl
theorem cells_length (L : List Bc) : (cells L).length = L.length * 4 := by
  induction L with
  | nil => rfl
  | cons z r ih => rw [cells_cons, List.length_append, ih]; simp [cell]; omega
theorem cells_one (L : List Bc) : ∀ u ∈ cells L, u.oneCell' = true := by
  intro u hu
  obtain ⟨x, _, hx⟩ := List.mem_flatMap.1 hu
  simp [cell] at hx
  rcases hx with rfl | rfl | rfl | rfl <;> rfl
theorem cells_append (L R : List Bc) : cells (L ++ R) = cells L ++ cells R := by unfold cells; rw [List.flatMap_append]
theorem cells_nil {L : List Bc} : cells L = [] ↔ L = [] := by cases L <;> simp [cells, cell]
theorem cells_get (L : List Bc) : ∀ k, k < L.length → (cells L)[k * 4]? = some (.int .i64 (L.getD k Bc.zero).b.o) ∧ (cells L)[k * 4 + 1]? = some (.int .i64 (L.getD k Bc.zero).b.c) ∧ (cells L)[k * 4 + 2]? = some (.int .i64 (L.getD k Bc.zero).b.n) ∧
    (cells L)[k * 4 + 3]? = some (.slice (L.getD k Bc.zero).X (L.getD k Bc.zero).b.v.length (L.getD k Bc.zero).d) := by
  induction L with
  | nil => intro k hk; simp at hk
  | cons x r ih =>
    intro k hk
    rw [cells_cons]
    cases k with
    | zero => exact ⟨rfl, rfl, rfl, rfl⟩
    | succ m =>
      obtain ⟨h1, h2, h3, h4⟩ := ih m (by simpa using hk)
      have sh : ∀ j, (cell x ++ cells r)[(m + 1) * 4 + j]? = (cells r)[m * 4 + j]? := fun j => by
        rw [List.getElem?_append_right (by simp [cell]; omega)]
        congr 1
        simp [cell]
        omega
      exact ⟨(sh 0).trans h1, (sh 1).trans h2, (sh 2).trans h3, (sh 3).trans h4⟩
theorem getD_lt {L : List Bc} {k : Nat} (hk : k < L.length) : L.getD k Bc.zero = L[k] := by rw [List.getD_eq_getElem?_getD, List.getElem?_eq_getElem hk]; rfl
theorem getD_mem {L : List Bc} {k : Nat} (hk : k < L.length) : L.getD k Bc.zero ∈ L := by rw [getD_lt hk]; exact List.getElem_mem hk
theorem cells_drop (L : List Bc) : ∀ n, cells (L.drop n) = (cells L).drop (n * 4) := by
  induction L with
  | nil => intro n; simp [cells]
  | cons x r ih =>
    intro n
    cases n with
    | zero => simp
    | succ m =>
      rw [List.drop_succ_cons, ih m, cells_cons, show (m + 1) * 4 = (cell x).length + m * 4 from by simp [cell]; omega, List.drop_length_add_append]

/-- Their bytes. -/
def used : List Bd → Nat
  | [] => 0
  | x :: r => x.v.length + used r
theorem used_append (l r : List Bd) : used (l ++ r) = used l + used r := by
  induction l with
  | nil => simp [used]
  | cons x s ih => simp [used, ih]; omega
/-- Is the body at this place as it must be? -/
def ok (l : List Bd) (j : Nat) : Prop := Wi.bright (l.getD j Bd.zero) = true ∧ ∀ i, i < j → (l.getD i Bd.zero).o ≠ (l.getD j Bd.zero).o
instance (l : List Bd) (j : Nat) : Decidable (ok l j) := by unfold ok; exact inferInstance
def oks (l : List Bd) : Bool := decide (∀ j : Fin l.length, ok l j.val)
theorem oks_iff (l : List Bd) : oks l = true ↔ ∀ j, j < l.length → ok l j := by
  unfold oks
  rw [decide_eq_true_iff]
  exact ⟨fun h j hj => h ⟨j, hj⟩, fun h j => h j.val j.isLt⟩
theorem oks_no {l : List Bd} (k : Nat) (hk : k < l.length) (h : ¬ ok l k) : oks l = false := by
  cases hc : oks l with
  | false => rfl
  | true => exact absurd ((oks_iff l).1 hc k hk) h
/-- Are bodies as they must be, beside a room? -/
def fmd (l : List Bd) (room : Int) : Bool := decide (0 ≤ room ∧ room ≤ 16777216 ∧ l.length ≤ 256) && (oks l && decide ((used l : Int) ≤ room))
/-- The first body of an object and a stamp; its value, and the error. -/
def find (l : List Bd) (o c n : Int) : Option Bd := l.find? fun x => decide (x.o = o ∧ x.c = c ∧ x.n = n)
def getR (l : List Bd) (o c n : Int) : List Int × Int := match find l o c n with
  | some x => (x.v, 0)
  | none => ([], 10)
/-- All but an object's. -/
def forget (l : List Bd) (o : Int) : List Bd := l.filter fun x => !decide (x.o = o)
/-- The first ones go while there are more bytes than room. -/
def fit (room : Int) : List Bd → List Bd
  | [] => []
  | x :: r => if room < (used (x :: r) : Int) then fit room r else x :: r
/-- A body is put, and the error. -/
def putR (l : List Bd) (room : Int) (x : Bd) : List Bd × Int := if fmd l room = true then (if Wi.bright x = true then (fit room (forget l x.o ++ [x]), 0) else ([], 1)) else ([], 1)
theorem forget_len (l : List Bd) (o : Int) : (forget l o).length ≤ l.length := List.length_filter_le _ _
theorem forget_used (l : List Bd) (o : Int) : used (forget l o) ≤ used l := by
  induction l with
  | nil => exact Nat.le_refl _
  | cons x r ih =>
    unfold forget at ih ⊢
    rw [List.filter_cons]
    split
    · simp only [used]; omega
    · simp only [used]; omega
end Ca

/-- Bodies by value. -/
structure OneC (w : World) (A : Option Addr) (c : Nat) (L : List Bc) : Prop where
  le : L.length ≤ c
  cap : c ≤ maxLen
  noA : A = none → L.length = 0 ∧ c = 0
  lies : Lies w A (Ca.cells L)
  each : ∀ z ∈ L, OneB w z.X z.d z.b.v
section
variable {w w' : World} {A : Option Addr} {c : Nat} {L : List Bc}
theorem OneC.later (h : OneC w A c L) (hb : Below w.heap.size w w') : OneC w' A c L := ⟨h.le, h.cap, h.noA, h.lies.later hb, fun f hf => (h.each f hf).later hb⟩
theorem OneC.len (h : OneC w A c L) : L.length ≤ 9223372036854775807 := by
  have h1 := h.le
  have h2 := h.cap
  unfold maxLen at h2
  omega
theorem OneC.nil (w : World) : OneC w none 0 [] := ⟨Nat.le_refl _, Nat.zero_le _, fun _ => ⟨rfl, rfl⟩, Lies.nil, fun _ h => by cases h⟩
/-- One of them: its cells. -/
theorem OneC.at (h : OneC w A c L) (hne : L ≠ []) : ∃ b off, A = some ⟨b, off, none⟩ ∧ ∀ k, k < L.length → w.cell? ⟨b, off + k * 4, none⟩ = some (.int .i64 (L.getD k Bc.zero).b.o) ∧ w.cell? ⟨b, off + k * 4 + 1, none⟩ = some (.int .i64 (L.getD k Bc.zero).b.c) ∧
    w.cell? ⟨b, off + k * 4 + 2, none⟩ = some (.int .i64 (L.getD k Bc.zero).b.n) ∧ w.cell? ⟨b, off + k * 4 + 3, none⟩ = some (.slice (L.getD k Bc.zero).X (L.getD k Bc.zero).b.v.length (L.getD k Bc.zero).d) := by
  obtain ⟨b, off, hA, hc⟩ := h.lies (fun e => hne (Ca.cells_nil.1 e))
  refine ⟨b, off, hA, fun k hk => ?_⟩
  obtain ⟨g0, g1, g2, g3⟩ := Ca.cells_get L k hk
  exact ⟨hc _ _ g0, by rw [Nat.add_assoc]; exact hc _ _ g1, by rw [Nat.add_assoc]; exact hc _ _ g2, by rw [Nat.add_assoc]; exact hc _ _ g3⟩
/-- Bodies in memory of the call's own: no block of them lies below base, and their bytes may be written. -/
structure OwnC (w : World) (base : Nat) (A : Option Addr) (c : Nat) (L : List Bc) : Prop where
  one : OneC w A c L
  row : ∀ b off, A = some ⟨b, off, none⟩ → base ≤ b
  byte : ∀ z ∈ L, ∀ b off, z.X = some ⟨b, off, none⟩ → base ≤ b ∧ b < w.heap.size ∧ ∀ i, w.frozen? ⟨b, i, none⟩ = false
theorem OwnC.later {base : Nat} (h : OwnC w base A c L) (hb : Below w.heap.size w w') : OwnC w' base A c L :=
  ⟨h.one.later hb, h.row, fun z hz b off e => by
    obtain ⟨h1, h2, h3⟩ := h.byte z hz b off e
    refine ⟨h1, by have := hb.size; omega, fun i => ?_⟩
    rw [← h3 i]
    exact World.frozen?_of_block (hb.block b h2)⟩
theorem OwnC.lower {base base' : Nat} (h : OwnC w base A c L) (hb : base' ≤ base) : OwnC w base' A c L :=
  ⟨h.one, fun b off e => Nat.le_trans hb (h.row b off e), fun z hz b off e => by
    obtain ⟨h1, h2⟩ := h.byte z hz b off e
    exact ⟨Nat.le_trans hb h1, h2⟩⟩
theorem OwnC.nil (w : World) (base : Nat) : OwnC w base none 0 [] := ⟨OneC.nil w, fun _ _ h => (by cases h), fun _ h => by cases h⟩
end
/-- Bodies are answered, in memory of the call's own. -/
def GivesC (l : List Bd) (w : World) (e : Ending) (w' : World) : Prop := ∃ A c L, e = .returned (.slice A L.length c) ∧ L.map Bc.b = l ∧ OwnC w' w.heap.size A c L ∧ Below w.heap.size w w'
/-- The same, and an error's number. -/
def GivesCE (l : List Bd) (x : Int) (w : World) (e : Ending) (w' : World) : Prop := ∃ A c L, e = .returned (.tuple #[.slice A L.length c, .int .i64 x]) ∧ L.map Bc.b = l ∧ OwnC w' w.heap.size A c L ∧ Below w.heap.size w w'
end Go.Proofs.Ytmccednfaemiaaa
