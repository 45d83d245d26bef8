/-
  What slices.IndexFunc and slices.DeleteFunc do at a list of files, whatever the predicate, as long as that leaves all memory as it was.
  What disk's Remove answers.
  What telltaleref08's Remove answers.
  What stands in all laws of disk: a fixed fact.
-/
import Derived.Test.YtkhggofcbdcliaaDoorG07
import Derived.Shelf.Abstract
import Derived.Test.YtkhggofcbdcliaaDoorG11
import Derived.Test.YtkhggofcbdcliaaDoorG13
import Derived.Lib.SlBytesConst
namespace Go.Proofs.YtkhggofcbdcliaaDoor
open Go.RowKit

/-- All blocks but one are as they were. -/
structure Oth (w w' : World) (b : Nat) : Prop where
  size : w.heap.size ≤ w'.heap.size
  same : ∀ k, k < w.heap.size → k ≠ b → w'.heap[k]? = w.heap[k]?
theorem Oth.of_below {w w' : World} {b : Nat} (h : Below w.heap.size w w') : Oth w w' b := ⟨h.size, fun k hk _ => h.block k hk⟩
theorem Oth.later {w w1 w2 : World} {b : Nat} (h : Oth w w1 b) (hb : Below w1.heap.size w1 w2) : Oth w w2 b := ⟨Nat.le_trans h.size hb.size, fun k hk hne => (hb.block k (Nat.lt_of_lt_of_le hk h.size)).trans (h.same k hk hne)⟩
theorem Oth.put {w w1 : World} {b o : Nat} (h : Oth w w1 b) (u : Value) : Oth w (w1.setCell ⟨b, o, none⟩ u) b := ⟨by simpa using h.size, fun k hk hne => (Below.heap_setCell w1 ⟨b, o, none⟩ u k hne).trans (h.same k hk hne)⟩
theorem Oth.cells {w : World} {b : Nat} : ∀ (vs : List Value) (o : Nat) (w1 : World), Oth w w1 b → Oth w (w1.setCells b o vs) b
  | [], _, _, h => h
  | v :: r, o, _, h => Oth.cells r (o + 1) _ (h.put v)

/-- A function value that says of each element whether p holds of it, in every world that is as wb was below. -/
def PredF (wb : World) (fn : Nat) (lb : Array Value) (p : Fc → Bool) : Prop := ∀ (W : World) (x : Fc), Below wb.heap.size wb W → Calls Tryd.prog fn (#[.agg #[.int .i64 x.num, .slice x.X x.l.length x.c, .int .i64 x.s]] ++ lb) W fun e w' => e = .returned (.bool (p x)) ∧ Below W.heap.size W w'
theorem PredF.later {wb w' : World} {fn : Nat} {lb : Array Value} {p : Fc → Bool} (h : PredF wb fn lb p) (hb : Below wb.heap.size wb w') : PredF w' fn lb p := fun W x hW => h W x (below_on hb hW)

theorem zeroCellsF (m : Nat) : (Builtin.zeroCells (Value.cells (.agg #[.int .i64 0, .slice none 0 0, .int .i64 0])) m).toList.length = m * 3 ∧ ∀ u ∈ (Builtin.zeroCells (Value.cells (.agg #[.int .i64 0, .slice none 0 0, .int .i64 0])) m).toList, u.oneCell' = true := by
  refine ⟨by rw [Array.length_toList, size_zeroCells]; rfl, fun u hu => ?_⟩
  unfold Builtin.zeroCells at hu
  simp [Value.cells] at hu
  obtain ⟨a, _, rfl⟩ := hu
  have h3 : a % 3 < 3 := Nat.mod_lt _ (by omega)
  rcases (show a % 3 = 0 ∨ a % 3 = 1 ∨ a % 3 = 2 from by omega) with h | h | h <;> simp [h, Value.oneCell']

theorem f_take (l : List Fc) (n : Nat) : ∀ (j : Nat) (u : Value), (fCells (l.take n))[j]? = some u → (fCells l)[j]? = some u := by
  intro j u hu
  rw [← List.take_append_drop n l, fCells_append, List.getElem?_append_left (List.getElem?_eq_some_iff.1 hu).1]
  exact hu


end Go.Proofs.YtkhggofcbdcliaaDoor
namespace Go.Proofs.YtkhggofcbdcliaaDoor
open Go.RowKit

theorem Lies.stays {w w' : World} {A : Option Addr} {xs : List Value} (h : Lies w A xs) (hs : ∀ a, A = some a → w'.heap[a.block]? = w.heap[a.block]?) : Lies w' A xs := fun hne => by
  obtain ⟨b, off, hA, hc⟩ := h hne
  exact ⟨b, off, hA, fun j u hu => (World.cell?_of_block (w := w) (w' := w') (a := ⟨b, off + j, none⟩) (show w'.heap[b]? = w.heap[b]? from hs ⟨b, off, none⟩ hA)).trans (hc j u hu)⟩
theorem OneB.stays {w w' : World} {A : Option Addr} {c : Nat} {l : List Int} (h : OneB w A c l) (hs : ∀ a, A = some a → w'.heap[a.block]? = w.heap[a.block]?) : OneB w' A c l := ⟨h.le, h.cap, h.noA, h.lies.stays hs, h.byte⟩
theorem OneD.stays {w w' : World} {A : Option Addr} {c : Nat} {L : List Fc} (h : OneD w A c L) (hA : ∀ a, A = some a → w'.heap[a.block]? = w.heap[a.block]?) (hs : ∀ f ∈ L, ∀ a, f.X = some a → w'.heap[a.block]? = w.heap[a.block]?) : OneD w' A c L :=
  ⟨h.le, h.cap, h.noA, h.lies.stays hA, fun f hf => (h.each f hf).stays (hs f hf)⟩
/-- A disk and an error are answered; what was there before is as it was. -/
def GivesDO (r : Dk.Ans3) (w : World) (e : Ending) (w' : World) : Prop :=
  ∃ A c L, e = .returned (.tuple #[.agg #[.int .i64 r.1, .slice A (List.length L) c], .int .i64 r.2.2]) ∧ OneD w' A c L ∧ L.map Fc.fi = r.2.1 ∧ Below w.heap.size w w'
theorem GivesDE.one {r : Dk.Ans3} {w w' : World} {e : Ending} (h : GivesDE r w e w') : GivesDO r w e w' := by
  obtain ⟨v, L, rfl, hO, h1, h2⟩ := h
  obtain ⟨A, c, rfl, h3⟩ := hO.one
  exact ⟨A, c, L, rfl, h3, h1, h2⟩

end Go.Proofs.YtkhggofcbdcliaaDoor
namespace Go.Proofs.YtkhggofcbdcliaaDoor
open Go.RowKit

/-- The first files of a list, as a row of their own. -/
theorem own_first {w : World} {base : Nat} {t : TypeId} {g N cap : Nat} {L : List Fc} (h : w.ownsRow base t 3 (.slice (some ⟨g, 0, none⟩) N cap) N (fCells L)) (k : Nat) (hk : k ≤ L.length) : w.ownsRow base t 3 (.slice (some ⟨g, 0, none⟩) k cap) k (fCells (L.take k)) := by
  have hN : N = L.length := by have := h.1; rw [fCells_length] at this; omega
  rcases h.2 with ⟨h1, _⟩ | ⟨g', cap', cur, h1, h2, h3, h4, h5, h6, h7⟩
  · cases h1
  · injection h1 with h1 h8 h9
    subst h9
    refine ⟨by rw [fCells_length, List.length_take]; omega, .inr ⟨g', cap, cur, by rw [h1], h2, h3, by omega, h5, h6, ?_⟩⟩
    rw [fCells_take, ← h7, List.take_take, Nat.min_eq_left (by omega)]

end Go.Proofs.YtkhggofcbdcliaaDoor
namespace Go.Proofs.YtkhggofcbdcliaaDoor
open Go.RowKit

theorem GivesDE.open {room k : Int} {fs : List Fi} {w w' : World} {e : Ending} (h : GivesDE (room, fs, k) w e w') :
    ∃ A c L, e = .returned (.tuple #[.agg #[.int .i64 room, .slice A (List.length L) c], .int .i64 k]) ∧ OwnD w' w.heap.size 50 5 (.slice A (List.length L) c) L ∧ L.map Fc.fi = fs ∧ Below w.heap.size w w' := by
  obtain ⟨v, L, rfl, hO, h1, h2⟩ := h
  obtain ⟨A, c, rfl, -⟩ := hO.one
  exact ⟨A, c, L, rfl, hO, h1, h2⟩
theorem GivesDO.open {room k : Int} {fs : List Fi} {w w' : World} {e : Ending} (h : GivesDO (room, fs, k) w e w') :
    ∃ A c L, e = .returned (.tuple #[.agg #[.int .i64 room, .slice A (List.length L) c], .int .i64 k]) ∧ OneD w' A c L ∧ L.map Fc.fi = fs ∧ Below w.heap.size w w' := h
/-- The bytes of a constant, where they are laid. -/
theorem OneB.const (w : World) (t : TypeId) (fr : Nat × Nat) (l : List Int) (hl : l.length ≤ maxLen) (hb : ∀ x ∈ l, isB x) : OneB (w.alloc (.cells (bCells l).toArray t fr)) (some ⟨w.heap.size, 0, none⟩) l.length l :=
  ⟨Nat.le_refl _, hl, (fun h => by cases h), (fun _ => ⟨w.heap.size, 0, rfl, fun j u hu => by
      rw [Nat.zero_add, World.cell?_alloc_mark]
      simpa using hu⟩), hb⟩

end Go.Proofs.YtkhggofcbdcliaaDoor
