/-
  A region that draws its order, whose operations may make memory, and one of which may store into what another one made. With it: what stays where a store turns a block of slices alone.
-/
import Derived.Test.YtoaclofobfaflaaG12
import Derived.Test.YtoaclofobfaflaaG03
import Derived.RangeFuncBox
import Derived.RangeFuncOwn
namespace Go.Proofs.Ytoaclofobfaflaa
open Go.RowKit

section
variable {P : Program} {ops : Array Oper} {md : Region.Mode} {Q : Exit → Act → World → Prop}

theorem wpAny_facts3 {n : Nat} (hB : factsB md ops n = true) (T : (Nat → Value) → Act) (Φ : Nat → (Nat → Value) → World → Prop) (Rel : World → World → Prop) (trans : ∀ {w1 w2 w3}, Rel w1 w2 → Rel w2 w3 → Rel w1 w3) (W0 : World)
    (loc : ∀ i k v x w, k ≠ i → k ∉ deps md ops i → Φ i v w → Φ i (upd v k x) w)
    (step : ∀ i, i < n → ∀ v w, Rel W0 w → (∀ j ∈ deps md ops i, Φ j v w) → wpOp P ops Q i (fun a' w' => ∃ x, a' = T (upd v i x) ∧ Rel w w' ∧ Φ i (upd v i x) w' ∧ ∀ j, j < n → j ≠ i → Φ j v w → Φ j v w') (T v) w)
    (done : ∀ v w, Rel W0 w → (∀ i, i < n → Φ i v w) → wpList P ops Q (ops.toList.drop n) (T v) w) :
    ∀ (f : Nat) (listed : Array Bool) (v : Nat → Value) (w : World), HeadInv md ops n listed → cntTo listed n = f → Rel W0 w → (∀ i, i < n → listed.getD i true = true → Φ i v w) → (∀ i, i < n → listed.getD i true = true → ∀ j ∈ deps md ops i, listed.getD j true = true) → wpAny P md ops Q (f + (ops.size - n)) listed (T v) w := by
  simp only [factsB, Bool.and_eq_true, decide_eq_true_eq] at hB
  obtain ⟨⟨⟨⟨hn, hs⟩, hc⟩, hd⟩, hq⟩ := hB
  intro f
  induction f with
  | zero =>
    intro listed v w inv hcnt hb hfacts _
    have hall := cntTo_zero listed n hcnt
    have he : listed = headListed ops.size n := by
      apply Array.ext
      · rw [inv.size]; simp [headListed]
      · intro i h1 h2
        have hi : i < ops.size := by rw [← inv.size]; exact h1
        have e2 : (headListed ops.size n)[i] = decide (i < n) := by simp [headListed]
        rw [e2]
        by_cases hin : i < n
        · have := hall i hin
          simp [h1] at this
          rw [this, decide_eq_true hin]
        · have := inv.tail i (by omega) hi
          simp [h1] at this
          rw [this, decide_eq_false hin]
    rw [Nat.zero_add]
    have hl : (ops.toList.drop n).length = ops.size - n := by simp
    rw [← hl]
    refine wpAny_of_seq (ops.toList.drop n) n listed _ w (fun j => by simp) ?_ (done v w hb (fun i hi => hfacts i hi (hall i hi)))
    rw [hl, he]
    exact hq
  | succ f ih =>
    intro listed v w inv hcnt hb hfacts hclosed
    obtain ⟨m, hm1, hm2, hm3⟩ := cntTo_pos listed n (by omega)
    have hmr : m ∈ Region.ready md ops listed := by
      have hms : m < ops.size := by omega
      refine mem_ready.2 ⟨hm2, ops[m], Array.getElem?_eq_getElem hms, fun e he hbind => ?_⟩
      have h1 := List.all_eq_true.1 hd m (List.mem_range.2 hms)
      have h2 : e.on ∈ deps md ops m := by
        unfold deps
        rw [Array.getElem?_eq_getElem hms]
        exact List.mem_map.2 ⟨e, List.mem_filter.2 ⟨Array.mem_toList_iff.2 he, hbind⟩, rfl⟩
      have h3 := of_decide_eq_true (List.all_eq_true.1 h1 _ h2)
      have h4 := hm3 e.on h3
      have h5 : e.on < listed.size := by rw [inv.size]; omega
      simp [h5] at h4 ⊢
      exact h4
    rw [show f + 1 + (ops.size - n) = (f + (ops.size - n)) + 1 from by omega]
    refine ⟨fun h0 => (by rw [h0] at hmr; cases hmr), fun i hi => ?_⟩
    have hin : i < n := by
      rcases Nat.lt_or_ge i n with h | h
      · exact h
      · exact absurd hi (tail_waits hs hc hn inv _ m rfl hm1 hm2 i h)
    obtain ⟨hun, oi, hoi, hafter⟩ := mem_ready.1 hi
    have hdl : ∀ j ∈ deps md ops i, listed.getD j true = true ∧ j < n := by
      intro j hj
      unfold deps at hj
      rw [hoi] at hj
      obtain ⟨e, he, rfl⟩ := List.mem_map.1 hj
      obtain ⟨he1, he2⟩ := List.mem_filter.1 he
      have h1 := hafter e (Array.mem_toList_iff.1 he1) he2
      have h2 : e.on < listed.size := by
        rcases Nat.lt_or_ge e.on listed.size with h' | h'
        · exact h'
        · simp [Array.getElem?_eq_none h'] at h1
      have h3 : listed.getD e.on true = true := by simp [h2] at h1 ⊢; exact h1
      refine ⟨h3, ?_⟩
      rcases Nat.lt_or_ge e.on n with h' | h'
      · exact h'
      · have := inv.tail e.on h' (by rw [← inv.size]; exact h2)
        rw [h3] at this
        cases this
    have keep : ∀ j, listed.getD j true = true → (listed.setIfInBounds i true).getD j true = true := fun j hj => by
      by_cases e : j = i
      · subst e; rw [hj] at hun; cases hun
      · rw [getD_set_ne true (fun h => e h.symm)]; exact hj
    refine wpOp_mono ?_ (step i hin v w hb (fun j hj => hfacts j (hdl j hj).2 (hdl j hj).1))
    rintro a' w' ⟨x, rfl, hb', hx, hst⟩
    refine ih _ (upd v i x) w' (inv.set hi hin) (by have := cntTo_set listed i hun n hin; omega) (trans hb hb') (fun j hj hl => ?_) (fun j hj hl d hdj => ?_)
    · by_cases e : j = i
      · subst e
        exact hx
      · rw [getD_set_ne true (fun h => e h.symm)] at hl
        refine loc j i v x w' (fun h => e h.symm) (fun h => ?_) (hst j hj e (hfacts j hj hl))
        have := hclosed j hj hl i h
        rw [hun] at this
        cases this
    · by_cases e : j = i
      · subst e
        exact keep d (hdl d hdj).1
      · rw [getD_set_ne true (fun h => e h.symm)] at hl
        exact keep d (hclosed j hj hl d hdj)

/-- **A region that draws its order, whose operations make memory, and one of which may store into what another one made:** what is known of an operation may speak of what those have yielded for which it waited. -/
theorem wp_region_facts3 {id : Nat} {l : List Oper} {w : World} (n : Nat) (hm : P.follows .mixedOrders = true) (hB : factsB .any l.toArray n = true) (T : (Nat → Value) → Act) (v0 : Nat → Value) (Φ : Nat → (Nat → Value) → World → Prop) (Rel : World → World → Prop) (trans : ∀ {w1 w2 w3}, Rel w1 w2 → Rel w2 w3 → Rel w1 w3) (hself : ∀ w, Rel w w) (hdrew : Rel w w.drew)
    (loc : ∀ i k v x w, k ≠ i → k ∉ deps .any l.toArray i → Φ i v w → Φ i (upd v k x) w)
    (step : ∀ i, i < n → ∀ v w', Rel w w' → (∀ j ∈ deps .any l.toArray i, Φ j v w') → wpOp P l.toArray Q i (fun a' w'' => ∃ x, a' = T (upd v i x) ∧ Rel w' w'' ∧ Φ i (upd v i x) w'' ∧ ∀ j, j < n → j ≠ i → Φ j v w' → Φ j v w'') (T v) w')
    (done : ∀ v w', Rel w w' → (∀ i, i < n → Φ i v w') → wpList P l.toArray Q (l.drop n) (T v) w') :
    (Code.region id l.toArray true).wp P Q (T v0) w := by
  refine wp_region_any hm ?_
  have hn : n < l.toArray.size := by
    simp only [factsB, Bool.and_eq_true, decide_eq_true_eq] at hB
    exact hB.1.1.1.1
  have hw : ∀ w', Rel { w with drawn := w.drawn + 1 } w' → Rel w w' := fun w' h => trans hdrew h
  have hno : ∀ i, i < n → (Array.replicate l.toArray.size false).getD i true = true → False := fun i hi hl => by
    rw [Array.getD_eq_getD_getElem?, Array.getElem?_replicate, if_pos (by omega)] at hl
    cases hl
  have h := wpAny_facts3 hB T Φ Rel trans { w with drawn := w.drawn + 1 } loc (fun i hi v w' hb hd => step i hi v w' (hw w' hb) hd) (fun v w' hb hf => done v w' (hw w' hb) hf)
    n (Array.replicate l.toArray.size false) v0 { w with drawn := w.drawn + 1 }
    ⟨by simp, fun j oj hj hl => (by rw [getD_replicate_false] at hl; cases hl), fun t ht ht' => (by rw [Array.getD_eq_getD_getElem?, Array.getElem?_replicate, if_pos ht']; rfl)⟩ (cntTo_none _ n (by omega)) (hself _) (fun i hi hl => (hno i hi hl).elim) (fun i hi hl => (hno i hi hl).elim)
  rw [show n + (l.toArray.size - n) = l.toArray.size from by omega] at h
  exact h
/-- One operation, walked as a list of one, with the way out behind a letter. -/
theorem wpOp_oneK {i : Nat} {o : Oper} {K : Act → World → Prop} {a : Act} {w : World} (ho : ops[i]? = some o) (h : ∀ K' : Act → World → Prop, (∀ a w, K a w → K' a w) → wpList P ops (Exit.then K' Q) [o] a w) : wpOp P ops Q i K a w := wpOp_one ho (h K (fun _ _ h => h))
end

/-- A block of slices alone. -/
def allSl : Obj → Bool
  | .cells cs _ _ => cs.all isSl
  | _ => false
/-- All that lay below B, and whatever is no block of slices alone, is as it was. -/
def RelS (B : Nat) (w w' : World) : Prop := Below B w w' ∧ ∀ (k : Nat) (o : Obj), w.heap[k]? = some o → allSl o = false → w'.heap[k]? = some o
section
variable {B : Nat} {w w' : World}
theorem RelS.refl (B : Nat) (w : World) : RelS B w w := ⟨Below.refl _ _, fun _ _ h _ => h⟩
theorem RelS.trans {w1 w2 w3 : World} (h : RelS B w1 w2) (k : RelS B w2 w3) : RelS B w1 w3 := ⟨h.1.trans k.1, fun i o h1 h2 => k.2 i o (h.2 i o h1 h2) h2⟩
theorem RelS.drew (w : World) : RelS B w w.drew := ⟨Below.drew (Below.refl _ _), fun _ _ h _ => h⟩
theorem RelS.below (hB : B ≤ w.heap.size) (h : Below w.heap.size w w') : RelS B w w' := ⟨h.mono hB, fun k _ h1 _ => (h.block k (Array.getElem?_eq_some_iff.1 h1).1).trans h1⟩
theorem RelS.set {g : Nat} {t : TypeId} {cs : Array Value} (hg : B ≤ g) (hb : Blk w g t cs) (hs : cs.all isSl = true) (i : Nat) (u : Value) : RelS B w (w.setCell ⟨g, i, none⟩ u) :=
  ⟨(Below.refl _ _).setCell (p := ⟨g, i, none⟩) hg u, fun k o h1 h2 => (Below.heap_setCell w ⟨g, i, none⟩ u k (fun e => by
    have e : k = g := e
    subst e
    rw [show w.heap[k]? = some _ from hb] at h1
    cases h1
    rw [show allSl _ = cs.all isSl from rfl, hs] at h2
    cases h2)).trans h1⟩
theorem RelS.lies {A : Option Addr} {xs : List Value} (h : RelS B w w') (hx : ∀ u ∈ xs, isSl u = false) (hl : Lies w A xs) : Lies w' A xs := fun hne => by
  obtain ⟨b, off, hA, hc⟩ := hl hne
  refine ⟨b, off, hA, fun j u hu => ?_⟩
  have h1 := hc j u hu
  obtain ⟨o, ho, hoc⟩ := cells_of_cell h1
  cases o with
  | cells cs t fr =>
    refine (World.cell?_of_block ((h.2 b _ ho ?_).trans ho.symm)).trans h1
    show allSl (.cells cs t fr) = false
    cases ha : allSl (.cells cs t fr) with
    | false => rfl
    | true =>
      have hcell : cs[off + j]? = some u := by
        unfold World.cell? at h1
        rw [show w.heap[b]? = _ from ho] at h1
        simpa using h1
      have h2 := Array.all_eq_true_iff_forall_mem.1 (show cs.all isSl = true from ha) u (Array.mem_of_getElem? hcell)
      rw [hx u (List.mem_of_getElem? hu)] at h2
      cases h2
  | _ => simp [Obj.isCells] at hoc
theorem OneL.relS {A : Option Addr} {c : Nat} {l : List (Int × Int)} (h : OneL w A c l) (r : RelS B w w') : OneL w' A c l := ⟨h.1, h.2.1, h.2.2.1, r.lies (stCells_noSl l) h.2.2.2⟩
theorem OneW.relS {A : Option Addr} {c : Nat} {l : List Wr} (h : OneW w A c l) (r : RelS B w w') : OneW w' A c l := ⟨h.1, h.2.1, h.2.2.1, r.lies (wrCells_noSl l) h.2.2.2⟩
theorem NoteAt.relS {S E V' V : Option Addr} {cs ce cb cv : Nat} {n : Note} (h : NoteAt w S E V' V cs ce cb cv n) (r : RelS B w w') : NoteAt w' S E V' V cs ce cb cv n := ⟨h.hs.relS r, h.he.relS r, h.hb.relS r, h.hv.relS r⟩
theorem RelS.puts {g : Nat} {t : TypeId} {y0 y1 y2 y3 : Value} (hg : B ≤ g) (hb : Blk w g t #[y0, y1, y2, y3]) (hy : isSl y0 = true ∧ isSl y1 = true ∧ isSl y2 = true ∧ isSl y3 = true) (x0 x1 x2 x3 : Value) (hx : isSl x0 = true ∧ isSl x1 = true ∧ isSl x2 = true) :
    RelS B w ((((w.setCell ⟨g, 0, none⟩ x0).setCell ⟨g, 1, none⟩ x1).setCell ⟨g, 2, none⟩ x2).setCell ⟨g, 3, none⟩ x3) := by
  obtain ⟨e0, e1, e2, e3⟩ := hy
  obtain ⟨f0, f1, f2⟩ := hx
  have B1 : Blk (w.setCell ⟨g, 0, none⟩ x0) g t #[x0, y1, y2, y3] := hb.put 0 x0
  have B2 : Blk ((w.setCell ⟨g, 0, none⟩ x0).setCell ⟨g, 1, none⟩ x1) g t #[x0, x1, y2, y3] := B1.put 1 x1
  have B3 : Blk (((w.setCell ⟨g, 0, none⟩ x0).setCell ⟨g, 1, none⟩ x1).setCell ⟨g, 2, none⟩ x2) g t #[x0, x1, x2, y3] := B2.put 2 x2
  refine (((RelS.set hg hb ?_ 0 x0).trans (RelS.set hg B1 ?_ 1 x1)).trans (RelS.set hg B2 ?_ 2 x2)).trans (RelS.set hg B3 ?_ 3 x3)
  all_goals simp [*]
end

/-- What is known of the operations that make a note, lay a cell for it and store it there. -/
def TwF (B : Nat) (t : TypeId) (k0 k1 k2 : Value) (m : List (Int × Int)) (Y : Note) (i : Nat) (v : Nat → Value) (wx : World) : Prop := match i with
  | 0 => v 0 = k0
  | 1 => v 1 = k1
  | 2 => v 2 = k2
  | 3 => ∃ A c, v 3 = .slice A m.length c ∧ OneL wx A c m
  | 4 => ∃ S E V' V cs ce cb cv, v 4 = .tuple #[.agg (noteCells S E V' V cs ce cb cv Y), .int .i64 0] ∧ NoteAt wx S E V' V cs ce cb cv Y
  | 5 => ∃ S E V' V cs ce cb cv, v 5 = .tuple #[.agg (noteCells S E V' V cs ce cb cv Y), .int .i64 0] ∧ NoteAt wx S E V' V cs ce cb cv Y
  | 6 => ∃ S E V' V cs ce cb cv, v 6 = .agg (noteCells S E V' V cs ce cb cv Y) ∧ NoteAt wx S E V' V cs ce cb cv Y
  | 7 => v 7 = .int .i64 0
  | 8 => ∃ g y0 y1 y2 y3, v 8 = .pointer (some ⟨g, 0, none⟩) ∧ B ≤ g ∧ Blk wx g t #[y0, y1, y2, y3] ∧ isSl y0 = true ∧ isSl y1 = true ∧ isSl y2 = true ∧ isSl y3 = true
  | 9 => ∃ g S E V' V cs ce cb cv, v 8 = .pointer (some ⟨g, 0, none⟩) ∧ B ≤ g ∧ Blk wx g t (noteCells S E V' V cs ce cb cv Y) ∧ NoteAt wx S E V' V cs ce cb cv Y
  | _ => True
section
variable {B : Nat} {t : TypeId} {k0 k1 k2 : Value} {m : List (Int × Int)} {Y : Note}
theorem TwF.later {i : Nat} {v : Nat → Value} {w w' : World} (h : TwF B t k0 k1 k2 m Y i v w) (hb : Below w.heap.size w w') : TwF B t k0 k1 k2 m Y i v w' := by
  match i, h with
  | 0, h => exact h
  | 1, h => exact h
  | 2, h => exact h
  | 3, ⟨A, c, h1, h2⟩ => exact ⟨A, c, h1, h2.later hb⟩
  | 4, ⟨S, E, V', V, cs, ce, cb, cv, h1, h2⟩ => exact ⟨S, E, V', V, cs, ce, cb, cv, h1, h2.later hb⟩
  | 5, ⟨S, E, V', V, cs, ce, cb, cv, h1, h2⟩ => exact ⟨S, E, V', V, cs, ce, cb, cv, h1, h2.later hb⟩
  | 6, ⟨S, E, V', V, cs, ce, cb, cv, h1, h2⟩ => exact ⟨S, E, V', V, cs, ce, cb, cv, h1, h2.later hb⟩
  | 7, h => exact h
  | 8, ⟨g, y0, y1, y2, y3, h1, h2, h3, h4⟩ => exact ⟨g, y0, y1, y2, y3, h1, h2, h3.later hb, h4⟩
  | 9, ⟨g, S, E, V', V, cs, ce, cb, cv, h1, h2, h3, h4⟩ => exact ⟨g, S, E, V', V, cs, ce, cb, cv, h1, h2, h3.later hb, h4.later hb⟩
  | i + 10, _ => trivial
theorem TwF.loc {i k : Nat} {v : Nat → Value} {x : Value} {w : World} (hk : k ≠ i) (h8 : i = 9 → k ≠ 8) (h : TwF B t k0 k1 k2 m Y i v w) : TwF B t k0 k1 k2 m Y i (upd v k x) w := by
  have e : ∀ j, k ≠ j → upd v k x j = v j := fun j hj => upd_other v k x (fun e => hj e.symm)
  match i, hk, h8, h with
  | 0, hk, _, h => unfold TwF at h ⊢; simp only [e 0 hk]; exact h
  | 1, hk, _, h => unfold TwF at h ⊢; simp only [e 1 hk]; exact h
  | 2, hk, _, h => unfold TwF at h ⊢; simp only [e 2 hk]; exact h
  | 3, hk, _, h => unfold TwF at h ⊢; simp only [e 3 hk]; exact h
  | 4, hk, _, h => unfold TwF at h ⊢; simp only [e 4 hk]; exact h
  | 5, hk, _, h => unfold TwF at h ⊢; simp only [e 5 hk]; exact h
  | 6, hk, _, h => unfold TwF at h ⊢; simp only [e 6 hk]; exact h
  | 7, hk, _, h => unfold TwF at h ⊢; simp only [e 7 hk]; exact h
  | 8, hk, _, h => unfold TwF at h ⊢; simp only [e 8 hk]; exact h
  | 9, _, h8, h => unfold TwF at h ⊢; simp only [e 8 (h8 rfl)]; exact h
  | i + 10, _, _, _ => trivial
/-- The store: all else stays. -/
theorem TwF.store {v : Nat → Value} {w : World} {g : Nat} {y0 y1 y2 y3 x0 x1 x2 x3 : Value} (hv : v 8 = .pointer (some ⟨g, 0, none⟩)) (hg : B ≤ g) (hb : Blk w g t #[y0, y1, y2, y3]) (hy : isSl y0 = true ∧ isSl y1 = true ∧ isSl y2 = true ∧ isSl y3 = true) (hx : isSl x0 = true ∧ isSl x1 = true ∧ isSl x2 = true ∧ isSl x3 = true)
    (j : Nat) (hj : j < 10) (hne : j ≠ 9) (h : TwF B t k0 k1 k2 m Y j v w) : TwF B t k0 k1 k2 m Y j v ((((w.setCell ⟨g, 0, none⟩ x0).setCell ⟨g, 1, none⟩ x1).setCell ⟨g, 2, none⟩ x2).setCell ⟨g, 3, none⟩ x3) := by
  have r := RelS.puts hg hb hy x0 x1 x2 x3 ⟨hx.1, hx.2.1, hx.2.2.1⟩
  match j, hj, hne, h with
  | 0, _, _, h => exact h
  | 1, _, _, h => exact h
  | 2, _, _, h => exact h
  | 3, _, _, ⟨A, c, h1, h2⟩ => exact ⟨A, c, h1, h2.relS r⟩
  | 4, _, _, ⟨S, E, V', V, cs, ce, cb, cv, h1, h2⟩ => exact ⟨S, E, V', V, cs, ce, cb, cv, h1, h2.relS r⟩
  | 5, _, _, ⟨S, E, V', V, cs, ce, cb, cv, h1, h2⟩ => exact ⟨S, E, V', V, cs, ce, cb, cv, h1, h2.relS r⟩
  | 6, _, _, ⟨S, E, V', V, cs, ce, cb, cv, h1, h2⟩ => exact ⟨S, E, V', V, cs, ce, cb, cv, h1, h2.relS r⟩
  | 7, _, _, h => exact h
  | 8, _, _, _ => exact ⟨g, x0, x1, x2, x3, hv, hg, (((hb.put 0 x0).put 1 x1).put 2 x2).put 3 x3, hx⟩
  | 9, _, hne, _ => exact absurd rfl hne
end

end Go.Proofs.Ytoaclofobfaflaa
