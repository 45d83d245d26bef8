/-
  Plain mathematics of notes: writes, a note's four lists, and how they lie in memory. Nothing of the program is imported.
  A region that draws its order, whose operations may make memory and hand back what depends on the order: each operation is walked once, over what is known of those that it waits for; the last ones, in one forced order, behind them. Nothing of the program is imported.
  'append([]T{}, xs...)': onto an empty slice without room: what lay there is as it was. Nothing of the program is imported.
  The zero values of great arrays, by one name each, however the program's text was loaded: where the load made no name of its own, these stand for it.
-/
import Derived.Test.YtbpgofgdlikedaaG03
import Derived.StillTail
import Derived.Below
import Derived.Test.YtbpgofgdlikedaaG01
import Derived.Laws.CopyOwn
import Derived.Test.YtbpgofgdlikedaaProg
import Derived.KernelRfl
namespace Go.Proofs.Ytbpgofgdlikedaa
open Go.RowKit

/-- A write: count, node, object, gone. -/
abbrev Wr := Int × Int × Int × Bool
namespace Nt
def wrCell (x : Wr) : List Value := [.int .i64 x.1, .int .i64 x.2.1, .int .i64 x.2.2.1, .bool x.2.2.2]
def wrCells (l : List Wr) : List Value := l.flatMap wrCell
theorem wrCells_length (l : List Wr) : (wrCells l).length = l.length * 4 := by
  induction l with
  | nil => rfl
  | cons x r ih =>
    unfold wrCells at *
    rw [List.flatMap_cons, List.length_append, ih]
    simp [wrCell]
    omega
theorem wrCells_one (l : List Wr) : ∀ u ∈ wrCells l, u.oneCell' = true := by
  intro u hu
  obtain ⟨x, _, hx⟩ := List.mem_flatMap.1 hu
  simp [wrCell] at hx
  rcases hx with rfl | rfl | rfl | rfl <;> rfl
theorem wrCells_append (l r : List Wr) : wrCells (l ++ r) = wrCells l ++ wrCells r := by unfold wrCells; rw [List.flatMap_append]
theorem wrCells_nil {l : List Wr} : wrCells l = [] ↔ l = [] := by cases l <;> simp [wrCells, wrCell]
def zeroW : Wr := (0, 0, 0, false)
theorem wrCells_get (l : List Wr) : ∀ k, k < l.length → (wrCells l)[k * 4]? = some (.int .i64 (l.getD k zeroW).1) ∧ (wrCells l)[k * 4 + 1]? = some (.int .i64 (l.getD k zeroW).2.1) ∧ (wrCells l)[k * 4 + 2]? = some (.int .i64 (l.getD k zeroW).2.2.1) ∧ (wrCells l)[k * 4 + 3]? = some (.bool (l.getD k zeroW).2.2.2) := by
  induction l with
  | nil => intro k hk; simp at hk
  | cons x r ih =>
    intro k hk
    have e : wrCells (x :: r) = wrCell x ++ wrCells r := rfl
    rw [e]
    cases k with
    | zero => exact ⟨rfl, rfl, rfl, rfl⟩
    | succ m =>
      obtain ⟨h1, h2, h3, h4⟩ := ih m (by simpa using hk)
      have hl : (wrCell x).length = 4 := rfl
      have sh : ∀ j, (wrCell x ++ wrCells r)[(m + 1) * 4 + j]? = (wrCells r)[m * 4 + j]? := fun j => by
        rw [List.getElem?_append_right (by omega), hl]
        congr 1
        omega
      refine ⟨(sh 0).trans h1, (sh 1).trans h2, (sh 2).trans h3, (sh 3).trans h4⟩
end Nt

/-- A list of writes by value. -/
def OneW (w : World) (A : Option Addr) (c : Nat) (l : List Wr) : Prop := l.length ≤ c ∧ c ≤ maxLen ∧ (A = none → l.length = 0 ∧ c = 0) ∧ Lies w A (Nt.wrCells l)
section
variable {w w' : World} {A : Option Addr} {c : Nat} {l : List Wr}
theorem OneW.later (h : OneW w A c l) (hb : Below w.heap.size w w') : OneW w' A c l := ⟨h.1, h.2.1, h.2.2.1, h.2.2.2.later hb⟩
theorem OneW.len (h : OneW w A c l) : l.length ≤ 9223372036854775807 := by
  have h1 := h.1
  have h2 := h.2.1
  unfold maxLen at h2
  omega
theorem OneW.nil : OneW w none 0 [] := ⟨Nat.le_refl _, Nat.zero_le _, fun _ => ⟨rfl, rfl⟩, Lies.nil⟩
theorem OneW.of_own {base : Nat} {e : TypeId} {v : Value} (h : w.ownsRow base e 4 v l.length (Nt.wrCells l)) : ∃ A c, v = .slice A l.length c ∧ OneW w A c l := by
  obtain ⟨A, c, h1, h2, h3, h4, h5⟩ := own_form h
  exact ⟨A, c, h1, h2, h3, h4, h5⟩
/-- The cells of one of them. -/
theorem OneW.at (h : OneW w A c l) (hne : l ≠ []) : ∃ b off, A = some ⟨b, off, none⟩ ∧ ∀ k, k < l.length → w.cell? ⟨b, off + k * 4, none⟩ = some (.int .i64 (l.getD k Nt.zeroW).1) ∧ w.cell? ⟨b, off + k * 4 + 1, none⟩ = some (.int .i64 (l.getD k Nt.zeroW).2.1) ∧
    w.cell? ⟨b, off + k * 4 + 2, none⟩ = some (.int .i64 (l.getD k Nt.zeroW).2.2.1) ∧ w.cell? ⟨b, off + k * 4 + 3, none⟩ = some (.bool (l.getD k Nt.zeroW).2.2.2) := by
  obtain ⟨b, off, hA, hc⟩ := h.2.2.2 (fun e => hne (Nt.wrCells_nil.1 e))
  refine ⟨b, off, hA, fun k hk => ?_⟩
  obtain ⟨h1, h2, h3, h4⟩ := Nt.wrCells_get l k hk
  exact ⟨hc _ _ h1, (Nat.add_assoc off (k * 4) 1) ▸ hc _ _ h2, (Nat.add_assoc off (k * 4) 2) ▸ hc _ _ h3, (Nat.add_assoc off (k * 4) 3) ▸ hc _ _ h4⟩
end

/-- A note: its start, its end, its blur, its writes. -/
structure Note where
  s : List (Int × Int)
  e : List (Int × Int)
  b : List (Int × Int)
  ws : List Wr
/-- A note by value: four slices. -/
structure NoteAt (w : World) (S E B V : Option Addr) (cs ce cb cv : Nat) (n : Note) : Prop where
  hs : OneL w S cs n.s
  he : OneL w E ce n.e
  hb : OneL w B cb n.b
  hv : OneW w V cv n.ws
theorem NoteAt.later {w w' : World} {S E B V : Option Addr} {cs ce cb cv : Nat} {n : Note} (h : NoteAt w S E B V cs ce cb cv n) (hb : Below w.heap.size w w') : NoteAt w' S E B V cs ce cb cv n := ⟨h.hs.later hb, h.he.later hb, h.hb.later hb, h.hv.later hb⟩
/-- Its cells. -/
def noteCells (S E B V : Option Addr) (cs ce cb cv : Nat) (n : Note) : Array Value := #[.slice S n.s.length cs, .slice E n.e.length ce, .slice B n.b.length cb, .slice V n.ws.length cv]
/-- A note is answered; what was there before is as it was. -/
def AnsN (n : Note) (w : World) (e : Ending) (w' : World) : Prop := ∃ S E B V cs ce cb cv, e = .returned (.agg (noteCells S E B V cs ce cb cv n)) ∧ NoteAt w' S E B V cs ce cb cv n ∧ Below w.heap.size w w'
/-- A note and an error's number. -/
def AnsNE (n : Note) (x : Int) (w : World) (e : Ending) (w' : World) : Prop := ∃ S E B V cs ce cb cv, e = .returned (.tuple #[.agg (noteCells S E B V cs ce cb cv n), .int .i64 x]) ∧ NoteAt w' S E B V cs ce cb cv n ∧ Below w.heap.size w w'

theorem stCells_flat' (l : List (Int × Int)) : l.flatMap (fun s => [Value.int .i64 s.1, Value.int .i64 s.2]) = stCells l := by
  induction l with
  | nil => rfl
  | cons s r ih => rw [List.flatMap_cons, ih]; rfl
def isSl : Value → Bool
  | .slice .. => true
  | _ => false
theorem stCells_noSl (l : List (Int × Int)) : ∀ u ∈ stCells l, isSl u = false := by
  intro u hu
  rw [← stCells_flat'] at hu
  obtain ⟨x, _, hx⟩ := List.mem_flatMap.1 hu
  simp at hx
  rcases hx with rfl | rfl <;> rfl
theorem wrCells_noSl (l : List Wr) : ∀ u ∈ Nt.wrCells l, isSl u = false := by
  intro u hu
  obtain ⟨x, _, hx⟩ := List.mem_flatMap.1 hu
  simp [Nt.wrCell] at hx
  rcases hx with rfl | rfl | rfl | rfl <;> rfl
/-- A store into a block of slices leaves what holds none as it was. -/
theorem Lies.slPut {w : World} {A : Option Addr} {xs : List Value} (h : Lies w A xs) (hx : ∀ u ∈ xs, isSl u = false) {g : Nat} {t : TypeId} {cs : Array Value} (hB : Blk w g t cs) (hc : ∀ u ∈ cs.toList, isSl u = true) (i : Nat) (x : Value) : Lies (w.setCell ⟨g, i, none⟩ x) A xs := fun hne => by
  obtain ⟨b, off, hA, hl⟩ := h hne
  refine ⟨b, off, hA, fun j u hu => ?_⟩
  have h1 := hl j u hu
  have hbg : b ≠ g := fun e => by
    subst e
    rw [cell_of_row w b (off + j) cs t (0, 0) hB] at h1
    have h2 := hc u (Array.mem_toList_iff.2 (Array.mem_of_getElem? h1))
    rw [hx u (List.mem_of_getElem? hu)] at h2
    cases h2
  exact (World.cell?_of_block (Below.heap_setCell w ⟨g, i, none⟩ x b hbg)).trans h1
theorem OneL.slPut {w : World} {A : Option Addr} {c : Nat} {l : List (Int × Int)} (h : OneL w A c l) {g : Nat} {t : TypeId} {cs : Array Value} (hB : Blk w g t cs) (hc : ∀ u ∈ cs.toList, isSl u = true) (i : Nat) (x : Value) : OneL (w.setCell ⟨g, i, none⟩ x) A c l := ⟨h.1, h.2.1, h.2.2.1, h.2.2.2.slPut (stCells_noSl l) hB hc i x⟩
theorem OneW.slPut {w : World} {A : Option Addr} {c : Nat} {l : List Wr} (h : OneW w A c l) {g : Nat} {t : TypeId} {cs : Array Value} (hB : Blk w g t cs) (hc : ∀ u ∈ cs.toList, isSl u = true) (i : Nat) (x : Value) : OneW (w.setCell ⟨g, i, none⟩ x) A c l := ⟨h.1, h.2.1, h.2.2.1, h.2.2.2.slPut (wrCells_noSl l) hB hc i x⟩
theorem NoteAt.slPut {w : World} {S E B V : Option Addr} {cs ce cb cv : Nat} {n : Note} (h : NoteAt w S E B V cs ce cb cv n) {g : Nat} {t : TypeId} {ds : Array Value} (hB : Blk w g t ds) (hc : ∀ u ∈ ds.toList, isSl u = true) (i : Nat) (x : Value) : NoteAt (w.setCell ⟨g, i, none⟩ x) S E B V cs ce cb cv n :=
  ⟨h.hs.slPut hB hc i x, h.he.slPut hB hc i x, h.hb.slPut hB hc i x, h.hv.slPut hB hc i x⟩
/-- Four slices are stored, one after the other. -/
theorem NoteAt.puts {w : World} {S E B V : Option Addr} {cs ce cb cv : Nat} {n : Note} (h : NoteAt w S E B V cs ce cb cv n) {g : Nat} {t : TypeId} {y0 y1 y2 y3 : Value} (hB : Blk w g t #[y0, y1, y2, y3]) (hy : isSl y0 = true ∧ isSl y1 = true ∧ isSl y2 = true ∧ isSl y3 = true) (x0 x1 x2 x3 : Value) (hx : isSl x0 = true ∧ isSl x1 = true ∧ isSl x2 = true) :
    NoteAt ((((w.setCell ⟨g, 0, none⟩ x0).setCell ⟨g, 1, none⟩ x1).setCell ⟨g, 2, none⟩ x2).setCell ⟨g, 3, none⟩ x3) S E B V cs ce cb cv n := by
  have B1 : Blk (w.setCell ⟨g, 0, none⟩ x0) g t #[x0, y1, y2, y3] := hB.put 0 x0
  have B2 : Blk ((w.setCell ⟨g, 0, none⟩ x0).setCell ⟨g, 1, none⟩ x1) g t #[x0, x1, y2, y3] := B1.put 1 x1
  have B3 : Blk (((w.setCell ⟨g, 0, none⟩ x0).setCell ⟨g, 1, none⟩ x1).setCell ⟨g, 2, none⟩ x2) g t #[x0, x1, x2, y3] := B2.put 2 x2
  obtain ⟨e0, e1, e2, e3⟩ := hy
  obtain ⟨f0, f1, f2⟩ := hx
  refine (((h.slPut hB ?_ 0 x0).slPut B1 ?_ 1 x1).slPut B2 ?_ 2 x2).slPut B3 ?_ 3 x3
  all_goals
    intro u hu
    simp at hu
    rcases hu with rfl | rfl | rfl | rfl <;> assumption

end Go.Proofs.Ytbpgofgdlikedaa
namespace Go.Proofs.Ytbpgofgdlikedaa
open Go.RowKit

/-- What operation i has yielded, written into the row of what has been yielded. -/
def upd (v : Nat → Value) (i : Nat) (x : Value) : Nat → Value := fun j => if j = i then x else v j
theorem upd_same (v : Nat → Value) (i : Nat) (x : Value) : upd v i x i = x := if_pos rfl
theorem upd_other (v : Nat → Value) (i : Nat) (x : Value) {j : Nat} (h : j ≠ i) : upd v i x j = v j := if_neg h

/-- The operations that one waits for. -/
def deps (md : Region.Mode) (ops : Array Oper) (i : Nat) : List Nat := ((ops[i]?).map fun o => (o.after.toList.filter fun e => Region.binds md e).map (·.on)).getD []
def headListed (size n : Nat) : Array Bool := ((List.range size).map fun i => decide (i < n)).toArray
/-- All of it asked at once of the region's text: every one waits for earlier ones; the tail waits for all, and for itself in its order. -/
def factsB (md : Region.Mode) (ops : Array Oper) (n : Nat) : Bool :=
  decide (n < ops.size) && Region.sinkB md ops n && Region.chainB md ops n && ((List.range ops.size).all fun i => (deps md ops i).all fun j => decide (j < i)) && Region.seqB md ops (ops.size - n) n (headListed ops.size n)

def cntTo (listed : Array Bool) : Nat → Nat
  | 0 => 0
  | k + 1 => cntTo listed k + (if listed.getD k true = false then 1 else 0)
theorem cntTo_set_ge (listed : Array Bool) (j : Nat) : ∀ k, k ≤ j → cntTo (listed.setIfInBounds j true) k = cntTo listed k
  | 0, _ => rfl
  | k + 1, h => by
    rw [cntTo, cntTo, cntTo_set_ge listed j k (by omega), getD_set_ne true (by omega)]
theorem cntTo_set (listed : Array Bool) (j : Nat) (hj : listed.getD j true = false) : ∀ k, j < k → cntTo (listed.setIfInBounds j true) k + 1 = cntTo listed k
  | 0, h => by omega
  | k + 1, h => by
    by_cases e : j = k
    · subst e
      have hs : (listed.setIfInBounds j true).getD j true = true := by
        rcases Nat.lt_or_ge j listed.size with h' | h'
        · simp [h']
        · simp [Array.getElem?_eq_none h'] at hj
      rw [cntTo, cntTo, cntTo_set_ge listed j j (Nat.le_refl _), hs, hj]
      simp
    · have := cntTo_set listed j hj k (by omega)
      rw [cntTo, cntTo, getD_set_ne true e]
      omega
theorem cntTo_zero (listed : Array Bool) : ∀ k, cntTo listed k = 0 → ∀ i, i < k → listed.getD i true = true
  | 0, _, i, hi => by omega
  | k + 1, h, i, hi => by
    rw [cntTo] at h
    by_cases e : i = k
    · subst e
      cases hl : listed.getD i true with
      | true => rfl
      | false => rw [hl] at h; simp at h
    · exact cntTo_zero listed k (by omega) i (by omega)
theorem cntTo_pos (listed : Array Bool) : ∀ k, 0 < cntTo listed k → ∃ i, i < k ∧ listed.getD i true = false ∧ ∀ j, j < i → listed.getD j true = true
  | 0, h => by simp [cntTo] at h
  | k + 1, h => by
    by_cases h0 : 0 < cntTo listed k
    · obtain ⟨i, h1, h2, h3⟩ := cntTo_pos listed k h0
      exact ⟨i, by omega, h2, h3⟩
    · rw [cntTo] at h
      refine ⟨k, by omega, ?_, cntTo_zero listed k (by omega)⟩
      cases hl : listed.getD k true with
      | false => rfl
      | true => rw [hl] at h; simp at h; omega
theorem cntTo_none (size : Nat) : ∀ k, k ≤ size → cntTo (Array.replicate size false) k = k
  | 0, _ => rfl
  | k + 1, h => by
    rw [cntTo, cntTo_none size k (by omega)]
    have : (Array.replicate size false).getD k true = false := by simp [show k < size from h]
    rw [this]
    simp

section
variable {P : Program} {ops : Array Oper} {md : Region.Mode} {Q : Exit → Act → World → Prop}

theorem wpAny_facts {n : Nat} (hB : factsB md ops n = true) (T : (Nat → Value) → Act) (Ψ : Nat → Value → World → Prop) (R : Nat → Nat → Value → Value → Prop) (Rel : World → World → Prop) (trans : ∀ {w1 w2 w3}, Rel w1 w2 → Rel w2 w3 → Rel w1 w3) (W0 : World)
    (stab : ∀ i x w w', Ψ i x w → Rel w w' → Ψ i x w')
    (step : ∀ i, i < n → ∀ v w, Rel W0 w → (∀ j ∈ deps md ops i, Ψ j (v j) w) → wpOp P ops Q i (fun a' w' => ∃ x, a' = T (upd v i x) ∧ Rel w w' ∧ Ψ i x w' ∧ ∀ j y, j ≠ i → Ψ j y w → R i j x y ∧ R j i y x) (T v) w)
    (done : ∀ v w, Rel W0 w → (∀ i, i < n → Ψ i (v i) w) → (∀ i j, i < n → j < n → i ≠ j → R i j (v i) (v j)) → wpList P ops Q (ops.toList.drop n) (T v) w) :
    ∀ (f : Nat) (listed : Array Bool) (v : Nat → Value) (w : World), HeadInv md ops n listed → cntTo listed n = f → Rel W0 w → (∀ i, i < n → listed.getD i true = true → Ψ i (v i) w) → (∀ i j, i < n → j < n → i ≠ j → listed.getD i true = true → listed.getD j true = true → R i j (v i) (v j)) → wpAny P md ops Q (f + (ops.size - n)) listed (T v) w := by
  simp only [factsB, Bool.and_eq_true, decide_eq_true_eq] at hB
  obtain ⟨⟨⟨⟨hn, hs⟩, hc⟩, hd⟩, hq⟩ := hB
  intro f
  induction f with
  | zero =>
    intro listed v w inv hcnt hb hfacts hrel
    have hall := cntTo_zero listed n hcnt
    have he : listed = headListed ops.size n := by
      apply Array.ext
      · rw [inv.size]; simp [headListed]
      · intro i h1 h2
        have hi : i < ops.size := by rw [← inv.size]; exact h1
        have e2 : (headListed ops.size n)[i] = decide (i < n) := by simp [headListed]
        rw [e2]
        by_cases hin : i < n
        · have := hall i hin
          simp [h1] at this
          rw [this, decide_eq_true hin]
        · have := inv.tail i (by omega) hi
          simp [h1] at this
          rw [this, decide_eq_false hin]
    rw [Nat.zero_add]
    have hl : (ops.toList.drop n).length = ops.size - n := by simp
    rw [← hl]
    refine wpAny_of_seq (ops.toList.drop n) n listed _ w (fun j => by simp) ?_ (done v w hb (fun i hi => hfacts i hi (hall i hi)) (fun i j hi hj hne => hrel i j hi hj hne (hall i hi) (hall j hj)))
    rw [hl, he]
    exact hq
  | succ f ih =>
    intro listed v w inv hcnt hb hfacts hrel
    obtain ⟨m, hm1, hm2, hm3⟩ := cntTo_pos listed n (by omega)
    have hmr : m ∈ Region.ready md ops listed := by
      have hms : m < ops.size := by omega
      refine mem_ready.2 ⟨hm2, ops[m], Array.getElem?_eq_getElem hms, fun e he hbind => ?_⟩
      have h1 := List.all_eq_true.1 hd m (List.mem_range.2 hms)
      have h2 : e.on ∈ deps md ops m := by
        unfold deps
        rw [Array.getElem?_eq_getElem hms]
        exact List.mem_map.2 ⟨e, List.mem_filter.2 ⟨Array.mem_toList_iff.2 he, hbind⟩, rfl⟩
      have h3 := of_decide_eq_true (List.all_eq_true.1 h1 _ h2)
      have h4 := hm3 e.on h3
      have h5 : e.on < listed.size := by rw [inv.size]; omega
      simp [h5] at h4 ⊢
      exact h4
    rw [show f + 1 + (ops.size - n) = (f + (ops.size - n)) + 1 from by omega]
    refine ⟨fun h0 => (by rw [h0] at hmr; cases hmr), fun i hi => ?_⟩
    have hin : i < n := by
      rcases Nat.lt_or_ge i n with h | h
      · exact h
      · exact absurd hi (tail_waits hs hc hn inv _ m rfl hm1 hm2 i h)
    obtain ⟨hun, oi, hoi, hafter⟩ := mem_ready.1 hi
    refine wpOp_mono ?_ (step i hin v w hb ?_)
    · rintro a' w' ⟨x, rfl, hb', hx, hrx⟩
      refine ih _ (upd v i x) w' (inv.set hi hin) (by have := cntTo_set listed i hun n hin; omega) (trans hb hb') (fun j hj hl => ?_) (fun p q hp hq hpq hlp hlq => ?_)
      · by_cases e : j = i
        · subst e
          rw [upd_same]
          exact hx
        · rw [upd_other v i x e]
          rw [getD_set_ne true (fun h => e h.symm)] at hl
          exact stab j _ w w' (hfacts j hj hl) hb'
      · by_cases ep : p = i
        · subst ep
          rw [upd_same, upd_other v p x (fun h => hpq h.symm)]
          rw [getD_set_ne true hpq] at hlq
          exact (hrx q _ (fun h => hpq h.symm) (hfacts q hq hlq)).1
        · rw [getD_set_ne true (fun h => ep h.symm)] at hlp
          by_cases eq : q = i
          · subst eq
            rw [upd_same, upd_other v q x ep]
            exact (hrx p _ ep (hfacts p hp hlp)).2
          · rw [getD_set_ne true (fun h => eq h.symm)] at hlq
            rw [upd_other v i x ep, upd_other v i x eq]
            exact hrel p q hp hq hpq hlp hlq
    · intro j hj
      unfold deps at hj
      rw [hoi] at hj
      obtain ⟨e, he, rfl⟩ := List.mem_map.1 hj
      obtain ⟨he1, he2⟩ := List.mem_filter.1 he
      have h1 := hafter e (Array.mem_toList_iff.1 he1) he2
      have h2 : e.on < listed.size := by
        rcases Nat.lt_or_ge e.on listed.size with h' | h'
        · exact h'
        · simp [Array.getElem?_eq_none h'] at h1
      have h3 : listed.getD e.on true = true := by simp [h2] at h1 ⊢; exact h1
      have h4 : e.on < n := by
        rcases Nat.lt_or_ge e.on n with h' | h'
        · exact h'
        · have := inv.tail e.on h' (by rw [← inv.size]; exact h2)
          rw [h3] at this
          cases this
      exact hfacts e.on h4 h3

/-- **A region that draws its order, whose operations make memory.** R: what two of them are to one another (two new blocks are not one). -/
theorem wp_region_facts2 {id : Nat} {l : List Oper} {w : World} (n : Nat) (hm : P.follows .mixedOrders = true) (hB : factsB .any l.toArray n = true) (T : (Nat → Value) → Act) (v0 : Nat → Value) (Ψ : Nat → Value → World → Prop) (R : Nat → Nat → Value → Value → Prop) (Rel : World → World → Prop) (trans : ∀ {w1 w2 w3}, Rel w1 w2 → Rel w2 w3 → Rel w1 w3) (hself : ∀ w, Rel w w) (hdrew : Rel w w.drew)
    (stab : ∀ i x w w', Ψ i x w → Rel w w' → Ψ i x w')
    (step : ∀ i, i < n → ∀ v w', Rel w w' → (∀ j ∈ deps .any l.toArray i, Ψ j (v j) w') → wpOp P l.toArray Q i (fun a' w'' => ∃ x, a' = T (upd v i x) ∧ Rel w' w'' ∧ Ψ i x w'' ∧ ∀ j y, j ≠ i → Ψ j y w' → R i j x y ∧ R j i y x) (T v) w')
    (done : ∀ v w', Rel w w' → (∀ i, i < n → Ψ i (v i) w') → (∀ i j, i < n → j < n → i ≠ j → R i j (v i) (v j)) → wpList P l.toArray Q (l.drop n) (T v) w') :
    (Code.region id l.toArray true).wp P Q (T v0) w := by
  refine wp_region_any hm ?_
  have hn : n < l.toArray.size := by
    simp only [factsB, Bool.and_eq_true, decide_eq_true_eq] at hB
    exact hB.1.1.1.1
  have hw : ∀ w', Rel { w with drawn := w.drawn + 1 } w' → Rel w w' := fun w' h => trans hdrew h
  have h := wpAny_facts hB T Ψ R Rel trans { w with drawn := w.drawn + 1 } stab (fun i hi v w' hb hd => step i hi v w' (hw w' hb) hd) (fun v w' hb hf hr => done v w' (hw w' hb) hf hr)
    n (Array.replicate l.toArray.size false) v0 { w with drawn := w.drawn + 1 }
    ⟨by simp, fun j oj hj hl => (by rw [getD_replicate_false] at hl; cases hl), fun t ht ht' => (by rw [Array.getD_eq_getD_getElem?, Array.getElem?_replicate, if_pos ht']; rfl)⟩ (cntTo_none _ n (by omega)) (hself _) (fun i hi hl => by
      rw [Array.getD_eq_getD_getElem?, Array.getElem?_replicate, if_pos (by omega)] at hl
      cases hl) (fun i j hi hj _ hl _ => by
      rw [Array.getD_eq_getD_getElem?, Array.getElem?_replicate, if_pos (by omega)] at hl
      cases hl)
  rw [show n + (l.toArray.size - n) = l.toArray.size from by omega] at h
  exact h
/-- **A region that draws its order, whose operations make memory.** -/
theorem wp_region_facts {id : Nat} {l : List Oper} {w : World} (n : Nat) (hm : P.follows .mixedOrders = true) (hB : factsB .any l.toArray n = true) (T : (Nat → Value) → Act) (v0 : Nat → Value) (Ψ : Nat → Value → World → Prop) (Rel : World → World → Prop) (trans : ∀ {w1 w2 w3}, Rel w1 w2 → Rel w2 w3 → Rel w1 w3) (hself : ∀ w, Rel w w) (hdrew : Rel w w.drew)
    (stab : ∀ i x w w', Ψ i x w → Rel w w' → Ψ i x w')
    (step : ∀ i, i < n → ∀ v w', Rel w w' → (∀ j ∈ deps .any l.toArray i, Ψ j (v j) w') → wpOp P l.toArray Q i (fun a' w'' => ∃ x, a' = T (upd v i x) ∧ Rel w' w'' ∧ Ψ i x w'') (T v) w')
    (done : ∀ v w', Rel w w' → (∀ i, i < n → Ψ i (v i) w') → wpList P l.toArray Q (l.drop n) (T v) w') :
    (Code.region id l.toArray true).wp P Q (T v0) w :=
  wp_region_facts2 n hm hB T v0 Ψ (fun _ _ _ _ => True) Rel trans hself hdrew stab
    (fun i hi v w' hb hd => wpOp_mono (fun _ _ ⟨x, h1, h2, h3⟩ => ⟨x, h1, h2, h3, fun _ _ _ _ => ⟨trivial, trivial⟩⟩) (step i hi v w' hb hd))
    (fun v w' hb hf _ => done v w' hb hf)
/-- One operation, walked as a list of one. -/
theorem wpOp_one {i : Nat} {o : Oper} {K : Act → World → Prop} {a : Act} {w : World} (ho : ops[i]? = some o) (h : wpList P ops (Exit.then K Q) [o] a w) : wpOp P ops Q i K a w := by
  unfold wpOp
  rw [ho]
  unfold wpList at h
  simp only
  split
  · rename_i hw
    rw [if_pos hw] at h
    rcases h with h | ⟨h1, h2⟩
    · left
      unfold Oper.wp at *
      generalize (execOp a.eval o).run P w = r at *
      cases r with
      | ok nx w' => cases nx <;> simp only [Oper.upon] at h ⊢ <;> first | exact h | (refine h.mono ?_; intro e w'' hq; cases e <;> exact hq)
      | halt x w' => cases x <;> simp only [Oper.upon] at h ⊢ <;> exact h
    · exact .inr ⟨h1, h2⟩
  · rename_i hw
    rw [if_neg hw] at h
    exact h
end

end Go.Proofs.Ytbpgofgdlikedaa
namespace Go.Proofs.Ytbpgofgdlikedaa
open Go.RowKit

theorem run_append_fresh {P : Program} (w : World) (base g : Nat) (t ty e : TypeId) (i : TypeInfo) (z : Value) (size bytes : Nat) (ht : P.underlying t = some (.slice e)) (hi : P.info? e = some i) (hz : i.zero = some z)
    (hsize : i.size = size) (hby : i.bytes = bytes) (hzs : z.cells.size = size) (hsz : 0 < size) (hg : Blk w g e #[]) (hbg : base ≤ g)
    (A : Option Addr) (m c : Nat) (hA : A = none → m = 0 ∧ c = 0) (news : List Value) (hl : news.length = m * size) (hr : Lies w A news) (h1 : ∀ u ∈ news, u.oneCell' = true)
    (h63 : m ≤ maxLen) (hbytes : m * bytes ≤ 140737488355328) :
    ∃ v' w', (Builtin.append_ #[t, t] ty #[.slice (some ⟨g, 0, none⟩) 0 0, .slice A m c]).run P w = .ok v' w' ∧ w'.ownsRow base e size v' m news ∧ Below w.heap.size w w' := by
  have hown : w.ownsRow base e size (.slice (some ⟨g, 0, none⟩) 0 0) 0 [] := ⟨by simp, .inr ⟨g, 0, #[], rfl, hbg, hg, Nat.le_refl _, Nat.zero_le _, by simp, by simp⟩⟩
  have hglt := hg.lt
  cases A with
  | none =>
    obtain ⟨rfl, rfl⟩ := hA rfl
    have hn : news = [] := List.eq_nil_of_length_eq_zero (by simpa using hl)
    subst hn
    exact ⟨_, w, run_append_owned_none (P := P) (w := w) base t ty e i size ht hi _ 0 [] hown, hown, Below.refl _ _⟩
  | some ad =>
    have hcells : ∀ j u, news[j]? = some u → w.cell? (ad.add j) = some u := by
      intro j u hu
      obtain ⟨b, off, hab, hc⟩ := hr (fun h => by subst h; simp at hu)
      injection hab with hab
      subst hab
      rw [Go.WideShapes.add_plain]
      exact hc j u hu
    subst hsize
    subst hby
    by_cases hm : m = 0
    · subst hm
      have hn : news = [] := List.eq_nil_of_length_eq_zero (by simpa using hl)
      subst hn
      have hrun := run_append_room (P := P) w t ty e i ht hi g 0 0 #[] hg ad 0 c [] (by simp) hcells h1 (Nat.le_refl _) (by simp)
      refine ⟨_, _, hrun, ⟨by simp, .inr ⟨g, 0, _, rfl, hbg, setRow_heap w g #[] _ e _ hg, Nat.le_refl _, Nat.zero_le _, by simp, by simp⟩⟩, ?_⟩
      refine ⟨rfl, rfl, rfl, by simp, fun k hk => ?_⟩
      by_cases hkg : k = g
      · subst hkg
        rw [setRow_heap w k #[] _ e _ hg, hg]
        simp
      · exact setRow_other w g k _ hkg
    · have hge := grownCap_ge w (0 + m) 0 e
      have hcm : grownCap w (0 + m) 0 e ≤ maxLen := grownCap_le_maxLen w (0 + m) 0 e (by omega)
      have hrun := run_append_grow (P := P) w t ty e i z ht hi hz ⟨g, 0, none⟩ 0 0 [] (by simp) (fun j u hu => by simp at hu) ad m c news hl hcells (by omega) (by unfold maxLen at h63; omega) (growslice_fits (by omega) (by rw [Nat.zero_add]; exact hbytes))
      refine ⟨_, _, hrun, ⟨hl, .inr ⟨w.heap.size, _, _, by rw [Nat.zero_add], by omega, heap_alloc_new w.drew _, by rw [Nat.zero_add] at hge ⊢; exact hge, hcm, ?_, ?_⟩⟩, ?_⟩
      · simp only [Array.size_append, List.size_toArray, size_zeroCells, hzs, hl, ← Nat.add_mul, List.length_nil, Nat.zero_add]
        congr 1
        rw [Nat.zero_add] at hge
        omega
      · simp only [Array.toList_append, List.nil_append]
        rw [← hl]
        exact List.take_left
      · exact (Below.drew (Below.refl _ _)).alloc (Nat.le_refl _) _

theorem wpList_append_fresh {P : Program} (w : World) {ops : Array Oper} {rest : List Oper} {o : Oper} {a : Act} {Q : Exit → Act → World → Prop} (hgd : o.guard = none) (s x : Operand) (t : TypeId)
    (ho : o.op = .call { callee := .builtin .append, args := #[s, x], argTypes := #[t, t] })
    (base g : Nat) (e : TypeId) (i : TypeInfo) (z : Value) (size bytes : Nat) (ht : P.underlying t = some (.slice e)) (hi : P.info? e = some i) (hz : i.zero = some z)
    (hsize : i.size = size) (hby : i.bytes = bytes) (hzs : z.cells.size = size) (hsz : 0 < size) (hs : a.eval s = .slice (some ⟨g, 0, none⟩) 0 0) (hg : Blk w g e #[]) (hbg : base ≤ g)
    (A : Option Addr) (m c : Nat) (hA : A = none → m = 0 ∧ c = 0) (news : List Value) (hx : a.eval x = .slice A m c) (hl : news.length = m * size) (hr : Lies w A news) (h1 : ∀ u ∈ news, u.oneCell' = true)
    (h63 : m ≤ maxLen) (hbytes : m * bytes ≤ 140737488355328)
    (h : ∀ v' w', w'.ownsRow base e size v' m news → Below w.heap.size w w' → wpList P ops Q rest (a.put o.dst v') w') :
    wpList P ops Q (o :: rest) a w := by
  refine wpList_plain hgd fun K hK => ?_
  obtain ⟨v', w', hrun, h2, h3⟩ := run_append_fresh (P := P) w base g t o.type e i z size bytes ht hi hz hsize hby hzs hsz hg hbg A m c hA news hl hr h1 h63 hbytes
  unfold Oper.wp execOp
  simp only [ho, resolve, invoke, builtin, Sem.run_bind, Sem.run_pure, Result.andThen_ok, List.map_toArray, List.map_cons, List.map_nil, hs, hx, hrun]
  exact hK _ _ (h v' w' h2 h3)

end Go.Proofs.Ytbpgofgdlikedaa
namespace Go.Proofs.Ytbpgofgdlikedaa.Fb

def Try.zeroCells52 : Array Value := Sp.arr fun _ => false

def Try.zeroCells61 : Array Value := Sp.arr fun _ => false

def Try.zeroCells68 : Array Value := Sp.nar fun _ => 0

end Go.Proofs.Ytbpgofgdlikedaa.Fb
namespace Go.Proofs.Ytbpgofgdlikedaa
open Fb

set_option maxRecDepth 100000 in
theorem marks_zero : Try.zeroCells52 = Sp.arr (fun _ => false) := by rfl
@[simp] theorem marks_zeroV (w : World) : (zeroValue 52).run Try.prog w = .ok (.agg Try.zeroCells52) w := by kernel_rfl
@[simp] theorem marks_zero_size : Try.zeroCells52.size = 256 := by rw [marks_zero, Sp.arr_size]
@[simp] theorem marks_zero_ne : ¬ Try.zeroCells52 = #[] := fun h => by have h2 := marks_zero_size; rw [h] at h2; cases h2

set_option maxRecDepth 100000 in
theorem set_zero : Try.zeroCells61 = Sp.arr (fun _ => false) := by rfl
@[simp] theorem set_zeroV (w : World) : (zeroValue 61).run Try.prog w = .ok (.agg Try.zeroCells61) w := by kernel_rfl
@[simp] theorem set_zero_size : Try.zeroCells61.size = 256 := by rw [set_zero, Sp.arr_size]
@[simp] theorem set_zero_ne : ¬ Try.zeroCells61 = #[] := fun h => by have h2 := set_zero_size; rw [h] at h2; cases h2

set_option maxRecDepth 100000 in
theorem change_zero : Try.zeroCells68 = Sp.nar (fun _ => 0) := by rfl
@[simp] theorem change_zeroV (w : World) : (zeroValue 68).run Try.prog w = .ok (.agg Try.zeroCells68) w := by kernel_rfl
@[simp] theorem change_zero_size : Try.zeroCells68.size = 257 := by rw [change_zero, Sp.nar_size]
@[simp] theorem change_zero_ne : ¬ Try.zeroCells68 = #[] := fun h => by have h2 := change_zero_size; rw [h] at h2; cases h2

end Go.Proofs.Ytbpgofgdlikedaa
