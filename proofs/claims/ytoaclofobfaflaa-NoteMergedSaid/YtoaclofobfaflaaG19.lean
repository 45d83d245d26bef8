/-
  A note and a write as arguments, opened.
  A region that draws its order, whose operations may make memory, and one of which may store into what another one made. With it: what stays where a store turns a block of slices alone.
  A run of cells that lies unfrozen in a block of one's own: written anew cell by cell, cut, cleared. What a filter keeps while it goes. Nothing of the program is imported.
  What note's isObject, formedWrites, Formed, Fits and News answer.
-/
import Derived.Test.YtoaclofobfaflaaG18
import Derived.Test.YtoaclofobfaflaaG14
import Derived.Test.YtoaclofobfaflaaG15
import Derived.Lib.SmallJoins
import Derived.RangeFuncBox
import Derived.RangeFuncOwn
import Derived.Laws.IdiomCopy
import Derived.Test.YtoaclofobfaflaaG09
import Derived.Test.YtoaclofobfaflaaG11
import Derived.Test.YtoaclofobfaflaaG16
namespace Go.Proofs.Ytoaclofobfaflaa
open Go.ChangeShapes Go.WideShapes Go.RowKit Go.Deep

section
variable {H : Type} {enc : TypeId × Value → H} {P : Program} {w : World}

/-- The cells of a write. -/
theorem write_cells {base : Nat} {spare : Nat → Bool} {held : Bool} {fuel : Nat} {t ti : TypeId} {g0 g1 g2 s0 s1 : Field} {cs : List Value} {x : DataW H × List MemPlace}
    (hs : P.underlying t = some (.struct #[g0, g1, g2])) (hC : P.cellsOf t = 4) (k0 : P.cellsOf g0.type = 2) (o0 : g0.offset = 0) (k1 : P.cellsOf g1.type = 1) (o1 : g1.offset = 2) (k2 : P.cellsOf g2.type = 1) (o2 : g2.offset = 3)
    (hss : P.underlying g0.type = some (.struct #[s0, s1])) (hone : Deep.oneCellFields P #[s0, s1] = true) (hi0 : s0.type = ti) (hi1 : s1.type = ti) (hi : P.underlying ti = some (.int .i64)) (h1 : P.underlying g1.type = some (.int .i64)) (hb : P.underlying g2.type = some .bool)
    (h : DataW.trod enc P w base spare held fuel t cs = some x) : ∃ y : Wr, cs = Nt.wrCell y := by
  obtain ⟨y0, y1, y2, m, rfl, hl, q0, q1, q2⟩ := trod_struct3 hs h
  rw [hC] at hl
  obtain ⟨a0, a1, a2, a3, rfl⟩ : ∃ a0 a1 a2 a3, cs = [a0, a1, a2, a3] := by
    match cs, hl with
    | [a0, a1, a2, a3], _ => exact ⟨a0, a1, a2, a3, rfl⟩
  rw [o0, k0] at q0
  rw [o1, k1] at q1
  rw [o2, k2] at q2
  obtain ⟨c, n, e0, _⟩ := stamp_cells hss hone k0 hi0 hi1 hi q0
  obtain ⟨o, e1, _, _⟩ := DataW.trod_int h1 q1
  obtain ⟨g, e2, _⟩ := DataW.trod_bool hb q2
  simp at e0 e1 e2
  obtain ⟨rfl, rfl⟩ := e0
  subst e1 e2
  exact ⟨(c, n, o, g), rfl⟩

/-- A write by value. -/
theorem open_write {base b0 : Nat} {spare : Nat → Bool} {held : Bool} {r : Reach} {t ti : TypeId} {g0 g1 g2 s0 s1 : Field} {v : Value} {d : DataW H} {p : List MemPlace}
    (hs : P.underlying t = some (.struct #[g0, g1, g2])) (hC : P.cellsOf t = 4) (k0 : P.cellsOf g0.type = 2) (o0 : g0.offset = 0) (k1 : P.cellsOf g1.type = 1) (o1 : g1.offset = 2) (k2 : P.cellsOf g2.type = 1) (o2 : g2.offset = 3)
    (hss : P.underlying g0.type = some (.struct #[s0, s1])) (hone : Deep.oneCellFields P #[s0, s1] = true) (hi0 : s0.type = ti) (hi1 : s1.type = ti) (hi : P.underlying ti = some (.int .i64)) (h1 : P.underlying g1.type = some (.int .i64)) (hb : P.underlying g2.type = some .bool)
    (hv : Value.okWide P w r b0 t v) (h : DataW.Trod enc P w base spare held t v d p) : ∃ y : Wr, v = .agg (Nt.wrArr y) := by
  obtain ⟨cs, rfl, _⟩ := okWide_struct hs hv
  obtain ⟨fuel, hf⟩ := h
  obtain ⟨y, hy⟩ := write_cells hs hC k0 o0 k1 o1 k2 o2 hss hone hi0 hi1 hi h1 hb hf
  refine ⟨y, ?_⟩
  have : cs = Nt.wrArr y := by
    apply Array.toList_inj.1
    rw [show cs.toList = Nt.wrCell y from hy]
    rfl
  rw [this]

/-- How long a list is, by its reading. -/
def LenD (d : DataW H) (k : Nat) : Prop := k = 0 ∨ ∃ elems spare, d = .slice elems spare ∧ elems.length = k

/-- A note by value. -/
theorem open_note {b0 : Nat} {r : Reach} {t es ep ew : TypeId} {f0 f1 f2 f3 : Field} {v : Value} {d : DataW H} {p : List MemPlace}
    (hs : P.underlying t = some (.struct #[f0, f1, f2, f3])) (hone : Deep.oneCellFields P #[f0, f1, f2, f3] = true) (hC : P.cellsOf t = 4)
    (u0 : P.underlying f0.type = some (.slice es)) (u1 : P.underlying f1.type = some (.slice es)) (u2 : P.underlying f2.type = some (.slice ep)) (u3 : P.underlying f3.type = some (.slice ew)) (cS : P.cellsOf es = 2) (cP : P.cellsOf ep = 2) (cW : P.cellsOf ew = 4)
    (HS : ∀ (fuel : Nat) (cs : List Value) (x : DataW H × List MemPlace), DataW.trod enc P w 0 (fun _ => true) true fuel es cs = some x → ∃ a, cs = stCell a)
    (HP : ∀ (fuel : Nat) (cs : List Value) (x : DataW H × List MemPlace), DataW.trod enc P w 0 (fun _ => true) true fuel ep cs = some x → ∃ a, cs = stCell a)
    (HW : ∀ (fuel : Nat) (cs : List Value) (x : DataW H × List MemPlace), DataW.trod enc P w 0 (fun _ => true) true fuel ew cs = some x → ∃ a, cs = Nt.wrCell a)
    (hv : Value.okWide P w r b0 t v) (h : DataW.Trod enc P w 0 (fun _ => true) true t v d p) :
    ∃ (S E B V : Option Addr) (cs ce cb cv : Nat) (n : Note), v = .agg (noteCells S E B V cs ce cb cv n) ∧ NoteAt w S E B V cs ce cb cv n ∧
      ∃ d0 d1 d2 d3, d = .agg [d0, d1, d2, d3] ∧ LenD d0 n.s.length ∧ LenD d1 n.e.length ∧ LenD d2 n.b.length ∧ LenD d3 n.ws.length := by
  obtain ⟨cs, rfl, hsz⟩ := okWide_struct hs hv
  obtain ⟨fuel, hf⟩ := h
  obtain ⟨y0, y1, y2, y3, m, hx, _, q0, q1, q2, q3⟩ := Go.Joins.trod_struct4 hs hf
  obtain ⟨o0, k0⟩ := Deep.hone_of hone 0 f0 rfl
  obtain ⟨o1, k1⟩ := Deep.hone_of hone 1 f1 rfl
  obtain ⟨o2, k2⟩ := Deep.hone_of hone 2 f2 rfl
  obtain ⟨o3, k3⟩ := Deep.hone_of hone 3 f3 rfl
  rw [hC] at hsz
  obtain ⟨a0, a1, a2, a3, hcs⟩ : ∃ a0 a1 a2 a3, cs.toList = [a0, a1, a2, a3] := by
    have hl : cs.toList.length = 4 := by simpa using hsz
    match cs.toList, hl with
    | [a0, a1, a2, a3], _ => exact ⟨a0, a1, a2, a3, rfl⟩
  have hcc : (Value.agg cs).cells.toList = [a0, a1, a2, a3] := hcs
  rw [hcc] at q0 q1 q2 q3
  rw [o0, k0] at q0
  rw [o1, k1] at q1
  rw [o2, k2] at q2
  rw [o3, k3] at q3
  simp at q0 q1 q2 q3
  obtain ⟨S, c0, l0, e0, g0, g0', g0'', L0, z0⟩ := open_list_at (0, 0) stCell (size := 2) (fun _ => rfl) u0 cS (by decide) HS q0
  obtain ⟨E, c1, l1, e1, g1, g1', g1'', L1, z1⟩ := open_list_at (0, 0) stCell (size := 2) (fun _ => rfl) u1 cS (by decide) HS q1
  obtain ⟨B, c2, l2, e2, g2, g2', g2'', L2, z2⟩ := open_list_at (0, 0) stCell (size := 2) (fun _ => rfl) u2 cP (by decide) HP q2
  obtain ⟨V, c3, l3, e3, g3, g3', g3'', L3, z3⟩ := open_list_at Nt.zeroW Nt.wrCell (size := 4) (fun _ => rfl) u3 cW (by decide) HW q3
  rw [stCells_flat] at L0 L1 L2
  simp at e0 e1 e2 e3
  subst e0 e1 e2 e3
  have hv2 : cs = noteCells S E B V c0 c1 c2 c3 ⟨l0, l1, l2, l3⟩ := by
    apply Array.toList_inj.1
    rw [hcs]
    rfl
  have hd : d = .agg [y0.1, y1.1, y2.1, y3.1] := congrArg Prod.fst hx
  refine ⟨S, E, B, V, c0, c1, c2, c3, ⟨l0, l1, l2, l3⟩, by rw [hv2], ⟨⟨g0, g0', g0'', L0⟩, ⟨g1, g1', g1'', L1⟩, ⟨g2, g2', g2'', L2⟩, ⟨g3, g3', g3'', L3⟩⟩, _, _, _, _, hd, ?_, ?_, ?_, ?_⟩
  · rcases z0 with ⟨_, z, _⟩ | ⟨el, sp, z, z', _⟩
    · exact .inl z
    · exact .inr ⟨el, sp, z, z'⟩
  · rcases z1 with ⟨_, z, _⟩ | ⟨el, sp, z, z', _⟩
    · exact .inl z
    · exact .inr ⟨el, sp, z, z'⟩
  · rcases z2 with ⟨_, z, _⟩ | ⟨el, sp, z, z', _⟩
    · exact .inl z
    · exact .inr ⟨el, sp, z, z'⟩
  · rcases z3 with ⟨_, z, _⟩ | ⟨el, sp, z, z', _⟩
    · exact .inl z
    · exact .inr ⟨el, sp, z, z'⟩

/-- How long a list inside a struct argument can be. -/
theorem sized_field {ts : List TypeId} {ds : List (DataW H)} (h : (DataW.weightsEach P ts ds).all (· ≤ reachBytes) = true) {j : Nat} {t : TypeId} {fs : Array Field} {parts : List (DataW H)} (ht : ts[j]? = some t) (hd : ds[j]? = some (.agg parts)) (hu : P.underlying t = some (.struct fs))
    {i : Nat} {tf e : TypeId} {x : DataW H} {k : Nat} (hti : (fs.toList.map (·.type))[i]? = some tf) (hpi : parts[i]? = some x) (hue : P.underlying tf = some (.slice e)) (hx : LenD x k) : k * P.bytesOf e ≤ reachBytes := by
  rcases hx with rfl | ⟨elems, spare, rfl, rfl⟩
  · omega
  · have hin : (elems.length + spare.length) * P.bytesOf e ∈ DataW.weights P tf (.slice elems spare) := by unfold DataW.weights; rw [hue]; exact List.mem_cons_self ..
    have hmid : (elems.length + spare.length) * P.bytesOf e ∈ DataW.weights P t (.agg parts) := by
      unfold DataW.weights
      rw [hu]
      exact DataW.weights_mem_each hti hpi _ hin
    have hall := List.all_eq_true.1 h _ (DataW.weights_mem_each ht hd _ hmid)
    have h2 : (elems.length + spare.length) * P.bytesOf e ≤ reachBytes := by simpa using hall
    exact Nat.le_trans (Nat.mul_le_mul_right _ (Nat.le_add_right _ _)) h2
end

end Go.Proofs.Ytoaclofobfaflaa
namespace Go.Proofs.Ytoaclofobfaflaa
open Go.RowKit

section
variable {P : Program} {ops : Array Oper} {md : Region.Mode} {Q : Exit → Act → World → Prop}

theorem wpAny_facts3 {n : Nat} (hB : factsB md ops n = true) (T : (Nat → Value) → Act) (Φ : Nat → (Nat → Value) → World → Prop) (Rel : World → World → Prop) (trans : ∀ {w1 w2 w3}, Rel w1 w2 → Rel w2 w3 → Rel w1 w3) (W0 : World)
    (loc : ∀ i k v x w, k ≠ i → k ∉ deps md ops i → Φ i v w → Φ i (upd v k x) w)
    (step : ∀ i, i < n → ∀ v w, Rel W0 w → (∀ j ∈ deps md ops i, Φ j v w) → wpOp P ops Q i (fun a' w' => ∃ x, a' = T (upd v i x) ∧ Rel w w' ∧ Φ i (upd v i x) w' ∧ ∀ j, j < n → j ≠ i → Φ j v w → Φ j v w') (T v) w)
    (done : ∀ v w, Rel W0 w → (∀ i, i < n → Φ i v w) → wpList P ops Q (ops.toList.drop n) (T v) w) :
    ∀ (f : Nat) (listed : Array Bool) (v : Nat → Value) (w : World), HeadInv md ops n listed → cntTo listed n = f → Rel W0 w → (∀ i, i < n → listed.getD i true = true → Φ i v w) → (∀ i, i < n → listed.getD i true = true → ∀ j ∈ deps md ops i, listed.getD j true = true) → wpAny P md ops Q (f + (ops.size - n)) listed (T v) w := by
  simp only [factsB, Bool.and_eq_true, decide_eq_true_eq] at hB
  obtain ⟨⟨⟨⟨hn, hs⟩, hc⟩, hd⟩, hq⟩ := hB
  intro f
  induction f with
  | zero =>
    intro listed v w inv hcnt hb hfacts _
    have hall := cntTo_zero listed n hcnt
    have he : listed = headListed ops.size n := by
      apply Array.ext
      · rw [inv.size]; simp [headListed]
      · intro i h1 h2
        have hi : i < ops.size := by rw [← inv.size]; exact h1
        have e2 : (headListed ops.size n)[i] = decide (i < n) := by simp [headListed]
        rw [e2]
        by_cases hin : i < n
        · have := hall i hin
          simp [h1] at this
          rw [this, decide_eq_true hin]
        · have := inv.tail i (by omega) hi
          simp [h1] at this
          rw [this, decide_eq_false hin]
    rw [Nat.zero_add]
    have hl : (ops.toList.drop n).length = ops.size - n := by simp
    rw [← hl]
    refine wpAny_of_seq (ops.toList.drop n) n listed _ w (fun j => by simp) ?_ (done v w hb (fun i hi => hfacts i hi (hall i hi)))
    rw [hl, he]
    exact hq
  | succ f ih =>
    intro listed v w inv hcnt hb hfacts hclosed
    obtain ⟨m, hm1, hm2, hm3⟩ := cntTo_pos listed n (by omega)
    have hmr : m ∈ Region.ready md ops listed := by
      have hms : m < ops.size := by omega
      refine mem_ready.2 ⟨hm2, ops[m], Array.getElem?_eq_getElem hms, fun e he hbind => ?_⟩
      have h1 := List.all_eq_true.1 hd m (List.mem_range.2 hms)
      have h2 : e.on ∈ deps md ops m := by
        unfold deps
        rw [Array.getElem?_eq_getElem hms]
        exact List.mem_map.2 ⟨e, List.mem_filter.2 ⟨Array.mem_toList_iff.2 he, hbind⟩, rfl⟩
      have h3 := of_decide_eq_true (List.all_eq_true.1 h1 _ h2)
      have h4 := hm3 e.on h3
      have h5 : e.on < listed.size := by rw [inv.size]; omega
      simp [h5] at h4 ⊢
      exact h4
    rw [show f + 1 + (ops.size - n) = (f + (ops.size - n)) + 1 from by omega]
    refine ⟨fun h0 => (by rw [h0] at hmr; cases hmr), fun i hi => ?_⟩
    have hin : i < n := by
      rcases Nat.lt_or_ge i n with h | h
      · exact h
      · exact absurd hi (tail_waits hs hc hn inv _ m rfl hm1 hm2 i h)
    obtain ⟨hun, oi, hoi, hafter⟩ := mem_ready.1 hi
    have hdl : ∀ j ∈ deps md ops i, listed.getD j true = true ∧ j < n := by
      intro j hj
      unfold deps at hj
      rw [hoi] at hj
      obtain ⟨e, he, rfl⟩ := List.mem_map.1 hj
      obtain ⟨he1, he2⟩ := List.mem_filter.1 he
      have h1 := hafter e (Array.mem_toList_iff.1 he1) he2
      have h2 : e.on < listed.size := by
        rcases Nat.lt_or_ge e.on listed.size with h' | h'
        · exact h'
        · simp [Array.getElem?_eq_none h'] at h1
      have h3 : listed.getD e.on true = true := by simp [h2] at h1 ⊢; exact h1
      refine ⟨h3, ?_⟩
      rcases Nat.lt_or_ge e.on n with h' | h'
      · exact h'
      · have := inv.tail e.on h' (by rw [← inv.size]; exact h2)
        rw [h3] at this
        cases this
    have keep : ∀ j, listed.getD j true = true → (listed.setIfInBounds i true).getD j true = true := fun j hj => by
      by_cases e : j = i
      · subst e; rw [hj] at hun; cases hun
      · rw [getD_set_ne true (fun h => e h.symm)]; exact hj
    refine wpOp_mono ?_ (step i hin v w hb (fun j hj => hfacts j (hdl j hj).2 (hdl j hj).1))
    rintro a' w' ⟨x, rfl, hb', hx, hst⟩
    refine ih _ (upd v i x) w' (inv.set hi hin) (by have := cntTo_set listed i hun n hin; omega) (trans hb hb') (fun j hj hl => ?_) (fun j hj hl d hdj => ?_)
    · by_cases e : j = i
      · subst e
        exact hx
      · rw [getD_set_ne true (fun h => e h.symm)] at hl
        refine loc j i v x w' (fun h => e h.symm) (fun h => ?_) (hst j hj e (hfacts j hj hl))
        have := hclosed j hj hl i h
        rw [hun] at this
        cases this
    · by_cases e : j = i
      · subst e
        exact keep d (hdl d hdj).1
      · rw [getD_set_ne true (fun h => e h.symm)] at hl
        exact keep d (hclosed j hj hl d hdj)

/-- **A region that draws its order, whose operations make memory, and one of which may store into what another one made:** what is known of an operation may speak of what those have yielded for which it waited. -/
theorem wp_region_facts3 {id : Nat} {l : List Oper} {w : World} (n : Nat) (hm : P.follows .mixedOrders = true) (hB : factsB .any l.toArray n = true) (T : (Nat → Value) → Act) (v0 : Nat → Value) (Φ : Nat → (Nat → Value) → World → Prop) (Rel : World → World → Prop) (trans : ∀ {w1 w2 w3}, Rel w1 w2 → Rel w2 w3 → Rel w1 w3) (hself : ∀ w, Rel w w) (hdrew : Rel w w.drew)
    (loc : ∀ i k v x w, k ≠ i → k ∉ deps .any l.toArray i → Φ i v w → Φ i (upd v k x) w)
    (step : ∀ i, i < n → ∀ v w', Rel w w' → (∀ j ∈ deps .any l.toArray i, Φ j v w') → wpOp P l.toArray Q i (fun a' w'' => ∃ x, a' = T (upd v i x) ∧ Rel w' w'' ∧ Φ i (upd v i x) w'' ∧ ∀ j, j < n → j ≠ i → Φ j v w' → Φ j v w'') (T v) w')
    (done : ∀ v w', Rel w w' → (∀ i, i < n → Φ i v w') → wpList P l.toArray Q (l.drop n) (T v) w') :
    (Code.region id l.toArray true).wp P Q (T v0) w := by
  refine wp_region_any hm ?_
  have hn : n < l.toArray.size := by
    simp only [factsB, Bool.and_eq_true, decide_eq_true_eq] at hB
    exact hB.1.1.1.1
  have hw : ∀ w', Rel { w with drawn := w.drawn + 1 } w' → Rel w w' := fun w' h => trans hdrew h
  have hno : ∀ i, i < n → (Array.replicate l.toArray.size false).getD i true = true → False := fun i hi hl => by
    rw [Array.getD_eq_getD_getElem?, Array.getElem?_replicate, if_pos (by omega)] at hl
    cases hl
  have h := wpAny_facts3 hB T Φ Rel trans { w with drawn := w.drawn + 1 } loc (fun i hi v w' hb hd => step i hi v w' (hw w' hb) hd) (fun v w' hb hf => done v w' (hw w' hb) hf)
    n (Array.replicate l.toArray.size false) v0 { w with drawn := w.drawn + 1 }
    ⟨by simp, fun j oj hj hl => (by rw [getD_replicate_false] at hl; cases hl), fun t ht ht' => (by rw [Array.getD_eq_getD_getElem?, Array.getElem?_replicate, if_pos ht']; rfl)⟩ (cntTo_none _ n (by omega)) (hself _) (fun i hi hl => (hno i hi hl).elim) (fun i hi hl => (hno i hi hl).elim)
  rw [show n + (l.toArray.size - n) = l.toArray.size from by omega] at h
  exact h
/-- One operation, walked as a list of one, with the way out behind a letter. -/
theorem wpOp_oneK {i : Nat} {o : Oper} {K : Act → World → Prop} {a : Act} {w : World} (ho : ops[i]? = some o) (h : ∀ K' : Act → World → Prop, (∀ a w, K a w → K' a w) → wpList P ops (Exit.then K' Q) [o] a w) : wpOp P ops Q i K a w := wpOp_one ho (h K (fun _ _ h => h))
end

/-- A block of slices alone. -/
def allSl : Obj → Bool
  | .cells cs _ _ => cs.all isSl
  | _ => false
/-- All that lay below B, and whatever is no block of slices alone, is as it was. -/
def RelS (B : Nat) (w w' : World) : Prop := Below B w w' ∧ ∀ (k : Nat) (o : Obj), w.heap[k]? = some o → allSl o = false → w'.heap[k]? = some o
section
variable {B : Nat} {w w' : World}
theorem RelS.refl (B : Nat) (w : World) : RelS B w w := ⟨Below.refl _ _, fun _ _ h _ => h⟩
theorem RelS.trans {w1 w2 w3 : World} (h : RelS B w1 w2) (k : RelS B w2 w3) : RelS B w1 w3 := ⟨h.1.trans k.1, fun i o h1 h2 => k.2 i o (h.2 i o h1 h2) h2⟩
theorem RelS.drew (w : World) : RelS B w w.drew := ⟨Below.drew (Below.refl _ _), fun _ _ h _ => h⟩
theorem RelS.below (hB : B ≤ w.heap.size) (h : Below w.heap.size w w') : RelS B w w' := ⟨h.mono hB, fun k _ h1 _ => (h.block k (Array.getElem?_eq_some_iff.1 h1).1).trans h1⟩
theorem RelS.set {g : Nat} {t : TypeId} {cs : Array Value} (hg : B ≤ g) (hb : Blk w g t cs) (hs : cs.all isSl = true) (i : Nat) (u : Value) : RelS B w (w.setCell ⟨g, i, none⟩ u) :=
  ⟨(Below.refl _ _).setCell (p := ⟨g, i, none⟩) hg u, fun k o h1 h2 => (Below.heap_setCell w ⟨g, i, none⟩ u k (fun e => by
    have e : k = g := e
    subst e
    rw [show w.heap[k]? = some _ from hb] at h1
    cases h1
    rw [show allSl _ = cs.all isSl from rfl, hs] at h2
    cases h2)).trans h1⟩
theorem RelS.lies {A : Option Addr} {xs : List Value} (h : RelS B w w') (hx : ∀ u ∈ xs, isSl u = false) (hl : Lies w A xs) : Lies w' A xs := fun hne => by
  obtain ⟨b, off, hA, hc⟩ := hl hne
  refine ⟨b, off, hA, fun j u hu => ?_⟩
  have h1 := hc j u hu
  obtain ⟨o, ho, hoc⟩ := cells_of_cell h1
  cases o with
  | cells cs t fr =>
    refine (World.cell?_of_block ((h.2 b _ ho ?_).trans ho.symm)).trans h1
    show allSl (.cells cs t fr) = false
    cases ha : allSl (.cells cs t fr) with
    | false => rfl
    | true =>
      have hcell : cs[off + j]? = some u := by
        unfold World.cell? at h1
        rw [show w.heap[b]? = _ from ho] at h1
        simpa using h1
      have h2 := Array.all_eq_true_iff_forall_mem.1 (show cs.all isSl = true from ha) u (Array.mem_of_getElem? hcell)
      rw [hx u (List.mem_of_getElem? hu)] at h2
      cases h2
  | _ => simp [Obj.isCells] at hoc
theorem OneL.relS {A : Option Addr} {c : Nat} {l : List (Int × Int)} (h : OneL w A c l) (r : RelS B w w') : OneL w' A c l := ⟨h.1, h.2.1, h.2.2.1, r.lies (stCells_noSl l) h.2.2.2⟩
theorem OneW.relS {A : Option Addr} {c : Nat} {l : List Wr} (h : OneW w A c l) (r : RelS B w w') : OneW w' A c l := ⟨h.1, h.2.1, h.2.2.1, r.lies (wrCells_noSl l) h.2.2.2⟩
theorem NoteAt.relS {S E V' V : Option Addr} {cs ce cb cv : Nat} {n : Note} (h : NoteAt w S E V' V cs ce cb cv n) (r : RelS B w w') : NoteAt w' S E V' V cs ce cb cv n := ⟨h.hs.relS r, h.he.relS r, h.hb.relS r, h.hv.relS r⟩
theorem RelS.puts {g : Nat} {t : TypeId} {y0 y1 y2 y3 : Value} (hg : B ≤ g) (hb : Blk w g t #[y0, y1, y2, y3]) (hy : isSl y0 = true ∧ isSl y1 = true ∧ isSl y2 = true ∧ isSl y3 = true) (x0 x1 x2 x3 : Value) (hx : isSl x0 = true ∧ isSl x1 = true ∧ isSl x2 = true) :
    RelS B w ((((w.setCell ⟨g, 0, none⟩ x0).setCell ⟨g, 1, none⟩ x1).setCell ⟨g, 2, none⟩ x2).setCell ⟨g, 3, none⟩ x3) := by
  obtain ⟨e0, e1, e2, e3⟩ := hy
  obtain ⟨f0, f1, f2⟩ := hx
  have B1 : Blk (w.setCell ⟨g, 0, none⟩ x0) g t #[x0, y1, y2, y3] := hb.put 0 x0
  have B2 : Blk ((w.setCell ⟨g, 0, none⟩ x0).setCell ⟨g, 1, none⟩ x1) g t #[x0, x1, y2, y3] := B1.put 1 x1
  have B3 : Blk (((w.setCell ⟨g, 0, none⟩ x0).setCell ⟨g, 1, none⟩ x1).setCell ⟨g, 2, none⟩ x2) g t #[x0, x1, x2, y3] := B2.put 2 x2
  refine (((RelS.set hg hb ?_ 0 x0).trans (RelS.set hg B1 ?_ 1 x1)).trans (RelS.set hg B2 ?_ 2 x2)).trans (RelS.set hg B3 ?_ 3 x3)
  all_goals simp [*]
end

/-- What is known of the operations that make a note, lay a cell for it and store it there. -/
def TwF (B : Nat) (t : TypeId) (k0 k1 k2 : Value) (m : List (Int × Int)) (Y : Note) (i : Nat) (v : Nat → Value) (wx : World) : Prop := match i with
  | 0 => v 0 = k0
  | 1 => v 1 = k1
  | 2 => v 2 = k2
  | 3 => ∃ A c, v 3 = .slice A m.length c ∧ OneL wx A c m
  | 4 => ∃ S E V' V cs ce cb cv, v 4 = .tuple #[.agg (noteCells S E V' V cs ce cb cv Y), .int .i64 0] ∧ NoteAt wx S E V' V cs ce cb cv Y
  | 5 => ∃ S E V' V cs ce cb cv, v 5 = .tuple #[.agg (noteCells S E V' V cs ce cb cv Y), .int .i64 0] ∧ NoteAt wx S E V' V cs ce cb cv Y
  | 6 => ∃ S E V' V cs ce cb cv, v 6 = .agg (noteCells S E V' V cs ce cb cv Y) ∧ NoteAt wx S E V' V cs ce cb cv Y
  | 7 => v 7 = .int .i64 0
  | 8 => ∃ g y0 y1 y2 y3, v 8 = .pointer (some ⟨g, 0, none⟩) ∧ B ≤ g ∧ Blk wx g t #[y0, y1, y2, y3] ∧ isSl y0 = true ∧ isSl y1 = true ∧ isSl y2 = true ∧ isSl y3 = true
  | 9 => ∃ g S E V' V cs ce cb cv, v 8 = .pointer (some ⟨g, 0, none⟩) ∧ B ≤ g ∧ Blk wx g t (noteCells S E V' V cs ce cb cv Y) ∧ NoteAt wx S E V' V cs ce cb cv Y
  | _ => True
section
variable {B : Nat} {t : TypeId} {k0 k1 k2 : Value} {m : List (Int × Int)} {Y : Note}
theorem TwF.later {i : Nat} {v : Nat → Value} {w w' : World} (h : TwF B t k0 k1 k2 m Y i v w) (hb : Below w.heap.size w w') : TwF B t k0 k1 k2 m Y i v w' := by
  match i, h with
  | 0, h => exact h
  | 1, h => exact h
  | 2, h => exact h
  | 3, ⟨A, c, h1, h2⟩ => exact ⟨A, c, h1, h2.later hb⟩
  | 4, ⟨S, E, V', V, cs, ce, cb, cv, h1, h2⟩ => exact ⟨S, E, V', V, cs, ce, cb, cv, h1, h2.later hb⟩
  | 5, ⟨S, E, V', V, cs, ce, cb, cv, h1, h2⟩ => exact ⟨S, E, V', V, cs, ce, cb, cv, h1, h2.later hb⟩
  | 6, ⟨S, E, V', V, cs, ce, cb, cv, h1, h2⟩ => exact ⟨S, E, V', V, cs, ce, cb, cv, h1, h2.later hb⟩
  | 7, h => exact h
  | 8, ⟨g, y0, y1, y2, y3, h1, h2, h3, h4⟩ => exact ⟨g, y0, y1, y2, y3, h1, h2, h3.later hb, h4⟩
  | 9, ⟨g, S, E, V', V, cs, ce, cb, cv, h1, h2, h3, h4⟩ => exact ⟨g, S, E, V', V, cs, ce, cb, cv, h1, h2, h3.later hb, h4.later hb⟩
  | i + 10, _ => trivial
theorem TwF.loc {i k : Nat} {v : Nat → Value} {x : Value} {w : World} (hk : k ≠ i) (h8 : i = 9 → k ≠ 8) (h : TwF B t k0 k1 k2 m Y i v w) : TwF B t k0 k1 k2 m Y i (upd v k x) w := by
  have e : ∀ j, k ≠ j → upd v k x j = v j := fun j hj => upd_other v k x (fun e => hj e.symm)
  match i, hk, h8, h with
  | 0, hk, _, h => unfold TwF at h ⊢; simp only [e 0 hk]; exact h
  | 1, hk, _, h => unfold TwF at h ⊢; simp only [e 1 hk]; exact h
  | 2, hk, _, h => unfold TwF at h ⊢; simp only [e 2 hk]; exact h
  | 3, hk, _, h => unfold TwF at h ⊢; simp only [e 3 hk]; exact h
  | 4, hk, _, h => unfold TwF at h ⊢; simp only [e 4 hk]; exact h
  | 5, hk, _, h => unfold TwF at h ⊢; simp only [e 5 hk]; exact h
  | 6, hk, _, h => unfold TwF at h ⊢; simp only [e 6 hk]; exact h
  | 7, hk, _, h => unfold TwF at h ⊢; simp only [e 7 hk]; exact h
  | 8, hk, _, h => unfold TwF at h ⊢; simp only [e 8 hk]; exact h
  | 9, _, h8, h => unfold TwF at h ⊢; simp only [e 8 (h8 rfl)]; exact h
  | i + 10, _, _, _ => trivial
/-- The store: all else stays. -/
theorem TwF.store {v : Nat → Value} {w : World} {g : Nat} {y0 y1 y2 y3 x0 x1 x2 x3 : Value} (hv : v 8 = .pointer (some ⟨g, 0, none⟩)) (hg : B ≤ g) (hb : Blk w g t #[y0, y1, y2, y3]) (hy : isSl y0 = true ∧ isSl y1 = true ∧ isSl y2 = true ∧ isSl y3 = true) (hx : isSl x0 = true ∧ isSl x1 = true ∧ isSl x2 = true ∧ isSl x3 = true)
    (j : Nat) (hj : j < 10) (hne : j ≠ 9) (h : TwF B t k0 k1 k2 m Y j v w) : TwF B t k0 k1 k2 m Y j v ((((w.setCell ⟨g, 0, none⟩ x0).setCell ⟨g, 1, none⟩ x1).setCell ⟨g, 2, none⟩ x2).setCell ⟨g, 3, none⟩ x3) := by
  have r := RelS.puts hg hb hy x0 x1 x2 x3 ⟨hx.1, hx.2.1, hx.2.2.1⟩
  match j, hj, hne, h with
  | 0, _, _, h => exact h
  | 1, _, _, h => exact h
  | 2, _, _, h => exact h
  | 3, _, _, ⟨A, c, h1, h2⟩ => exact ⟨A, c, h1, h2.relS r⟩
  | 4, _, _, ⟨S, E, V', V, cs, ce, cb, cv, h1, h2⟩ => exact ⟨S, E, V', V, cs, ce, cb, cv, h1, h2.relS r⟩
  | 5, _, _, ⟨S, E, V', V, cs, ce, cb, cv, h1, h2⟩ => exact ⟨S, E, V', V, cs, ce, cb, cv, h1, h2.relS r⟩
  | 6, _, _, ⟨S, E, V', V, cs, ce, cb, cv, h1, h2⟩ => exact ⟨S, E, V', V, cs, ce, cb, cv, h1, h2.relS r⟩
  | 7, _, _, h => exact h
  | 8, _, _, _ => exact ⟨g, x0, x1, x2, x3, hv, hg, (((hb.put 0 x0).put 1 x1).put 2 x2).put 3 x3, hx⟩
  | 9, _, hne, _ => exact absurd rfl hne
end

end Go.Proofs.Ytoaclofobfaflaa
namespace Go.Proofs.Ytoaclofobfaflaa
open Go.RowKit

/-- The cells xs lie from a place of a block on, none of them frozen. -/
def Lay (w : World) (b off : Nat) (xs : List Value) : Prop := ∀ (j : Nat) (u : Value), xs[j]? = some u → w.cell? ⟨b, off + j, none⟩ = some u ∧ w.frozen? ⟨b, off + j, none⟩ = false

section
variable {w w' : World} {b off : Nat} {xs ys : List Value}
theorem Lay.later (h : Lay w b off xs) (hlt : b < w.heap.size) (hb : Below w.heap.size w w') : Lay w' b off xs := fun j u hu =>
  ⟨(hb.cell (p := ⟨b, off + j, none⟩) hlt).trans (h j u hu).1, (hb.frozen (p := ⟨b, off + j, none⟩) hlt).trans (h j u hu).2⟩
theorem Lay.drew (h : Lay w b off xs) : Lay w.drew b off xs := h
theorem Lay.put (h : Lay w b off xs) (i : Nat) (u : Value) : Lay (w.setCell ⟨b, off + i, none⟩ u) b off (xs.set i u) := by
  intro j v hv
  have hj : j < xs.length := by
    have := (List.getElem?_eq_some_iff.1 hv).1
    simpa using this
  have h0 := h j xs[j] (List.getElem?_eq_getElem hj)
  refine ⟨?_, by rw [World.frozen?_setCell]; exact h0.2⟩
  by_cases e : i = j
  · subst e
    rw [List.getElem?_set_self hj] at hv
    injection hv with hv
    subst hv
    exact World.cell?_setCell_same' _ _ _ (by rw [h0.1]; rfl)
  · rw [List.getElem?_set_ne e] at hv
    refine (World.cell?_setCell_other _ _ _ _ (fun hh => e (by injection hh with _ h2; omega))).trans (h j v hv).1
theorem Lay.far (h : Lay w b off xs) {p : Addr} (hp : b ≠ p.block) (u : Value) : Lay (w.setCell p u) b off xs := fun j v hv =>
  ⟨(World.cell?_of_block (w := w) (w' := w.setCell p u) (a := ⟨b, off + j, none⟩) (Below.heap_setCell w p u b hp)).trans (h j v hv).1, by rw [World.frozen?_setCell]; exact (h j v hv).2⟩
theorem Lay.sub (h : Lay w b off xs) (hs : ∀ (j : Nat) (u : Value), ys[j]? = some u → xs[j]? = some u) : Lay w b off ys := fun j u hu => h j u (hs j u hu)
theorem Lay.lies (h : Lay w b off xs) : Lies w (some ⟨b, off, none⟩) xs := fun _ => ⟨b, off, rfl, fun j u hu => (h j u hu).1⟩
theorem Lay.of_own {base : Nat} {e : TypeId} {size n cap : Nat} (h : w.ownsRow base e size (.slice (some ⟨b, 0, none⟩) n cap) n xs) : Lay w b 0 xs := by
  rcases h.2 with ⟨h1, _⟩ | ⟨g', cap', cur, h1, _, hg, _, _, _, ht⟩
  · cases h1
  · injection h1 with h1 h2 h3
    injection h1 with h1
    injection h1 with h1
    subst h1
    intro j u hu
    rw [Nat.zero_add]
    refine ⟨?_, Blk.free hg j⟩
    rw [cell_of_row w b j cur e (0, 0) hg, ← Array.getElem?_toList]
    rw [← ht, List.getElem?_take] at hu
    split at hu
    · exact hu
    · cases hu
/-- Cells behind the first ones are written anew: those stay. -/
theorem Lay.behind (h : Lay w b off xs) (k : Nat) (hk : xs.length ≤ k) (vs : List Value) : Lay (w.setCells b (off + k) vs) b off xs := fun j u hu => by
  have hj := (List.getElem?_eq_some_iff.1 hu).1
  refine ⟨?_, by rw [World.frozen?_setCells]; exact (h j u hu).2⟩
  rw [World.cell?_setCells_out b vs (off + k) w ⟨b, off + j, none⟩ (fun _ _ => Or.inl (by show off + j < off + k; omega))]
  exact (h j u hu).1
end

theorem below_cells {w0 : World} {b : Nat} (hb : w0.heap.size ≤ b) : ∀ (vs : List Value) (o : Nat) (w : World), Below w0.heap.size w0 w → Below w0.heap.size w0 (w.setCells b o vs)
  | [], _, _, h => h
  | v :: r, o, _, h => below_cells hb r (o + 1) _ (h.setCell (p := ⟨b, o, none⟩) hb v)

theorem OneW.of_lay {w : World} {b off c : Nat} {l : List Wr} (h : Lay w b off (Nt.wrCells l)) (h1 : l.length ≤ c) (h2 : c ≤ maxLen) : OneW w (some ⟨b, off, none⟩) c l := ⟨h1, h2, (fun h => by cases h), h.lies⟩
theorem OneL.of_lay {w : World} {b off c : Nat} {l : List (Int × Int)} (h : Lay w b off (stCells l)) (h1 : l.length ≤ c) (h2 : c ≤ maxLen) : OneL w (some ⟨b, off, none⟩) c l := ⟨h1, h2, (fun h => by cases h), h.lies⟩

/-- 'clear(s)' of n elements of any number of cells. -/
theorem run_clear_cells {P : Program} (w : World) (t e ty : TypeId) (z : Value) (ht : P.underlying t = some (.slice e)) (hv : ∀ w, (zeroValue e).run P w = .ok z w) (b o n c : Nat) (hn : 0 < n)
    (h1 : ∀ u ∈ (Builtin.zeroCells z.cells n).toList, u.oneCell' = true)
    (hc : ∀ j, j < (Builtin.zeroCells z.cells n).toList.length → (w.cell? ⟨b, o + j, none⟩).isSome = true) (hf : ∀ j, j < (Builtin.zeroCells z.cells n).toList.length → w.frozen? ⟨b, o + j, none⟩ = false) :
    (Builtin.clear_ #[t] ty #[.slice (some ⟨b, o, none⟩) n c]).run P w = .ok (.tuple #[]) (w.setCells b o (Builtin.zeroCells z.cells n).toList) := by
  have hst := run_storeCells_cells (P := P) b o (Builtin.zeroCells z.cells n).toList 0 w (by simpa using hc) (by simpa using hf) h1
  simp only [Nat.add_zero] at hst
  obtain ⟨m, rfl⟩ : ∃ m, n = m + 1 := ⟨n - 1, by omega⟩
  simp [Builtin.clear_, run_underlying ht, hv, hst]

section
variable {α : Type} {q : α → Bool} {D Dk : List α} {i j : Nat}
/-- Of the first j elements those that are kept lie at the head, i of them; from j on all is as it was. -/
structure KeptL (q : α → Bool) (D : List α) (j i : Nat) (Dk : List α) : Prop where
  len : Dk.length = D.length
  head : Dk.take i = (D.take j).filter q
  cnt : ((D.take j).filter q).length = i
  lt : i < j
  le : j ≤ D.length
  tail : ∀ t, j ≤ t → Dk[t]? = D[t]?
theorem KeptL.start (hj : j < D.length) (hall : ∀ t (h : t < j), q (D[t]'(by omega)) = true) (hno : q D[j] = false) : KeptL q D (j + 1) j D where
  len := rfl
  head := by
    rw [List.take_succ_eq_append_getElem hj, List.filter_append, List.filter_eq_self.2 (fun x hx => by
      obtain ⟨t, ht, rfl⟩ := List.mem_iff_getElem.1 hx
      rw [List.getElem_take]
      exact hall t (by rw [List.length_take] at ht; omega))]
    simp [hno]
  cnt := by
    rw [List.take_succ_eq_append_getElem hj, List.filter_append, List.filter_eq_self.2 (fun x hx => by
      obtain ⟨t, ht, rfl⟩ := List.mem_iff_getElem.1 hx
      rw [List.getElem_take]
      exact hall t (by rw [List.length_take] at ht; omega))]
    simp [hno]
    omega
  lt := Nat.lt_succ_self _
  le := by omega
  tail := fun _ _ => rfl
theorem KeptL.skip (h : KeptL q D j i Dk) (hj : j < D.length) (hno : q D[j] = false) : KeptL q D (j + 1) i Dk where
  len := h.len
  head := by rw [h.head, List.take_succ_eq_append_getElem hj, List.filter_append]; simp [hno]
  cnt := by rw [List.take_succ_eq_append_getElem hj, List.filter_append]; simp [hno, h.cnt]
  lt := by have := h.lt; omega
  le := by omega
  tail := fun t ht => h.tail t (by omega)
theorem KeptL.keep (h : KeptL q D j i Dk) (hj : j < D.length) (hyes : q D[j] = true) : KeptL q D (j + 1) (i + 1) (Dk.set i D[j]) where
  len := by rw [List.length_set]; exact h.len
  head := by
    have hi : i < (Dk.set i D[j]).length := by rw [List.length_set, h.len]; have := h.lt; omega
    rw [List.take_succ_eq_append_getElem hi, List.getElem_set_self, List.take_set, List.set_eq_of_length_le (by rw [List.length_take]; omega), h.head, List.take_succ_eq_append_getElem hj, List.filter_append]
    simp [hyes]
  cnt := by rw [List.take_succ_eq_append_getElem hj, List.filter_append]; simp [hyes, h.cnt]
  lt := by have := h.lt; omega
  le := by omega
  tail := fun t ht => by
    rw [List.getElem?_set_ne (by have := h.lt; omega)]
    exact h.tail t (by omega)
theorem KeptL.done (h : KeptL q D D.length i Dk) : i = (D.filter q).length ∧ Dk.take i = D.filter q := by
  have h1 := h.cnt
  have h2 := h.head
  rw [List.take_length] at h1 h2
  exact ⟨h1.symm, h2⟩
theorem KeptL.get (h : KeptL q D j i Dk) (hj : j < D.length) : Dk[j]? = some D[j] := by rw [h.tail j (Nat.le_refl _), List.getElem?_eq_getElem hj]
end

/-- The cells of a list whose element i is written anew. -/
theorem wr_set (D : List Wr) (x : Wr) : ∀ i, i < D.length → ((((Nt.wrCells D).set (i * 4) (.int .i64 x.1)).set (i * 4 + 1) (.int .i64 x.2.1)).set (i * 4 + 2) (.int .i64 x.2.2.1)).set (i * 4 + 3) (.bool x.2.2.2) = Nt.wrCells (D.set i x) := by
  induction D with
  | nil => intro i hi; simp at hi
  | cons y r ih =>
    intro i hi
    cases i with
    | zero => rfl
    | succ m =>
      have e : Nt.wrCells (y :: r) = [.int .i64 y.1, .int .i64 y.2.1, .int .i64 y.2.2.1, .bool y.2.2.2] ++ Nt.wrCells r := rfl
      have e2 : Nt.wrCells ((y :: r).set (m + 1) x) = [.int .i64 y.1, .int .i64 y.2.1, .int .i64 y.2.2.1, .bool y.2.2.2] ++ Nt.wrCells (r.set m x) := rfl
      rw [e, e2, ← ih m (by simpa using hi), show (m + 1) * 4 = m * 4 + 4 from by omega]
      rfl
theorem st_set (D : List (Int × Int)) (x : Int × Int) : ∀ i, i < D.length → ((stCells D).set (i * 2) (.int .i64 x.1)).set (i * 2 + 1) (.int .i64 x.2) = stCells (D.set i x) := by
  induction D with
  | nil => intro i hi; simp at hi
  | cons y r ih =>
    intro i hi
    cases i with
    | zero => rfl
    | succ m =>
      have e : stCells (y :: r) = [.int .i64 y.1, .int .i64 y.2] ++ stCells r := rfl
      have e2 : stCells ((y :: r).set (m + 1) x) = [.int .i64 y.1, .int .i64 y.2] ++ stCells (r.set m x) := rfl
      rw [e, e2, ← ih m (by simpa using hi), show (m + 1) * 2 = m * 2 + 2 from by omega]
      rfl
/-- The cells of element k, where the list has it. -/
theorem wr_get (l : List Wr) (x : Wr) (k : Nat) (h : l[k]? = some x) : (Nt.wrCells l)[k * 4]? = some (.int .i64 x.1) ∧ (Nt.wrCells l)[k * 4 + 1]? = some (.int .i64 x.2.1) ∧ (Nt.wrCells l)[k * 4 + 2]? = some (.int .i64 x.2.2.1) ∧ (Nt.wrCells l)[k * 4 + 3]? = some (.bool x.2.2.2) := by
  have hk := (List.getElem?_eq_some_iff.1 h).1
  have := Nt.wrCells_get l k hk
  rw [List.getD_eq_getElem?_getD, h] at this
  exact this
theorem st_get (l : List (Int × Int)) (x : Int × Int) (k : Nat) (h : l[k]? = some x) : (stCells l)[k * 2]? = some (.int .i64 x.1) ∧ (stCells l)[k * 2 + 1]? = some (.int .i64 x.2) := by
  have hk := (List.getElem?_eq_some_iff.1 h).1
  have := stCells_get l k hk
  rw [List.getD_eq_getElem?_getD, h] at this
  exact this
theorem wr_take (l : List Wr) (n : Nat) : ∀ (j : Nat) (u : Value), (Nt.wrCells (l.take n))[j]? = some u → (Nt.wrCells l)[j]? = some u := by
  intro j u hu
  rw [← List.take_append_drop n l, Nt.wrCells_append, List.getElem?_append_left (List.getElem?_eq_some_iff.1 hu).1]
  exact hu
theorem st_take (l : List (Int × Int)) (n : Nat) : ∀ (j : Nat) (u : Value), (stCells (l.take n))[j]? = some u → (stCells l)[j]? = some u := by
  intro j u hu
  rw [← List.take_append_drop n l, stCells_append, List.getElem?_append_left (List.getElem?_eq_some_iff.1 hu).1]
  exact hu

end Go.Proofs.Ytoaclofobfaflaa
namespace Go.Proofs.Ytoaclofobfaflaa
open Go.RowKit Fb

set_option maxHeartbeats 800000 in
theorem nisObject_any (o : Int) (w : World) : Calls Try.prog 45 #[.int .i64 o] w (Says (.bool (decide (0 ≤ o ∧ o ≤ 255))) w) := by
  by_cases h0 : 0 ≤ o
  · have d0 : decide (0 ≤ o) = true := decide_eq_true h0
    by_cases h1 : o < 256
    · have d1 : decide (o < 256) = true := decide_eq_true h1
      rw [show decide (0 ≤ o ∧ o ≤ 255) = true from decide_eq_true (by omega)]
      go_enter Try.func45, Try.ntmps45
      go_wp2
      go_ret
      exact ⟨rfl, Below.refl _ _⟩
    · have d1 : decide (o < 256) = false := decide_eq_false h1
      rw [show decide (0 ≤ o ∧ o ≤ 255) = false from decide_eq_false (by omega)]
      go_enter Try.func45, Try.ntmps45
      go_wp2
      go_ret
      exact ⟨rfl, Below.refl _ _⟩
  · have d0 : decide (0 ≤ o) = false := decide_eq_false h0
    rw [show decide (0 ≤ o ∧ o ≤ 255) = false from decide_eq_false (by omega)]
    go_enter Try.func45, Try.ntmps45
    go_wp2
    go_ret
    exact ⟨rfl, Below.refl _ _⟩

namespace Nt
/-- The object of the last of the first k writes; -1 if there is none. -/
def lastO (l : List Wr) : Nat → Int
  | 0 => -1
  | k + 1 => obj l k
end Nt

set_option maxRecDepth 100000 in
set_option maxHeartbeats 6400000 in
theorem nformedWrites_any (S E B V : Option Addr) (cs ce cb cv : Nat) (n : Note) (w : World) (h1 : NoteAt w S E B V cs ce cb cv n) :
    Calls Try.prog 36 #[.agg (noteCells S E B V cs ce cb cv n)] w (Says (.bool (Nt.wsOk n)) w) := by
  obtain ⟨W, hW⟩ : ∃ W, w.alloc (.cells (noteCells S E B V cs ce cb cv n) 26) = W := ⟨_, rfl⟩
  have hb0 : Below w.heap.size w W := by rw [← hW]; exact below_new (Below.refl _ _) _
  have hB0 : Blk W w.heap.size 26 (noteCells S E B V cs ce cb cv n) := by rw [← hW]; exact Blk.new w _ _
  obtain ⟨c0, c1, c2, c3⟩ := note_cells hB0
  have p3 := c3
  rw [← hW] at p3
  have HN := Lib.hid (h1.later hb0)
  have NO := Lib.hid (fun wx o => nisObject_any o wx)
  have NH := Lib.hid (fun wx (hb : Below W.heap.size W wx) o => sphas_any B cb n.b o wx (HN.out.hb.later hb))
  have NE := Lib.hid (fun wx (hb : Below W.heap.size W wx) x y => has_any E ce n.e x y wx (HN.out.he.later hb))
  have HW := Lib.hid hW
  clear hW hB0 h1
  have bb0 := Below.refl W.heap.size W
  have hlenw := HN.out.hv.len
  go_enter Try.func36, Try.ntmps36
  go_wp2_with fail
  rw [HW.out]
  go_loopw [3, 9] (fun s3 s9 wr => ∃ k : Nat, k ≤ n.ws.length ∧ s9 = .int .i64 (k : Int) ∧ s3 = .int .i64 (Nt.lastO n.ws k) ∧ Nt.wsTo n k ∧ Below W.heap.size W wr) (fun _ s9 _ => n.ws.length - (intOf s9).toNat)
  case atStart => exact ⟨0, Nat.zero_le _, rfl, rfl, fun j hj => by omega, bb0⟩
  case round =>
    obtain ⟨k, hk, rfl, rfl, hall, hbw⟩ := hrel
    have HALL := Lib.hid hall
    have g1 := cell_later hbw c1
    have g2 := cell_later hbw c2
    clear hall p3
    by_cases hlt : k < n.ws.length
    · have hne : n.ws ≠ [] := fun e => by rw [e] at hlt; simp at hlt
      obtain ⟨b, off, hA, hcA⟩ := (HN.out.hv.later hbw).at hne
      subst hA
      obtain ⟨e0, e1, e2, e3⟩ := hcA k hlt
      have hi0 : (0 : Int) ≤ (k : Int) := by omega
      have hi1 : (k : Int) < (n.ws.length : Int) := by omega
      have hno := @Nt.wsOk_no n k hlt
      have hnx : hasOf n.e (n.ws.getD k Nt.zeroW).1 (n.ws.getD k Nt.zeroW).2.1 = true → (0 ≤ Nt.obj n.ws k ∧ Nt.obj n.ws k ≤ 255) → inOf n.b (Nt.obj n.ws k) = false → (0 < k → Nt.obj n.ws (k - 1) < Nt.obj n.ws k) → Nt.wsTo n (k + 1) := fun q1 q2 q3 q4 j hj => by
        by_cases e : j = k
        · subst e; exact ⟨q1, q2, q3, q4⟩
        · exact HALL.out j (by omega)
      have hob : (n.ws.getD k Nt.zeroW).2.2.1 = Nt.obj n.ws k := rfl
      rw [hob] at e2
      obtain ⟨ln, hln⟩ : ∃ ln, Nt.lastO n.ws k = ln := ⟨_, rfl⟩
      have hprev : 0 < k → Nt.obj n.ws (k - 1) = ln := fun h => by
        cases k with
        | zero => omega
        | succ m => rw [← hln]; rfl
      have hz : k = 0 → ln = -1 := fun h => by subst h; rw [← hln]; rfl
      have hnext : Nt.lastO n.ws (k + 1) = Nt.obj n.ws k := rfl
      rw [hln]
      obtain ⟨x, hx⟩ : ∃ x, (n.ws.getD k Nt.zeroW).1 = x := ⟨_, rfl⟩
      obtain ⟨y, hy⟩ : ∃ y, (n.ws.getD k Nt.zeroW).2.1 = y := ⟨_, rfl⟩
      obtain ⟨gn, hgn⟩ : ∃ gn, (n.ws.getD k Nt.zeroW).2.2.2 = gn := ⟨_, rfl⟩
      obtain ⟨o, ho⟩ : ∃ o, Nt.obj n.ws k = o := ⟨_, rfl⟩
      rw [hx] at e0 hno hnx
      rw [hy] at e1 hno hnx
      rw [hgn] at e3
      rw [ho] at e2 hno hnx hnext
      obtain ⟨hs, hhs⟩ : ∃ hs, hasOf n.e x y = hs := ⟨_, rfl⟩
      obtain ⟨ib, hib⟩ : ∃ ib, inOf n.b o = ib := ⟨_, rfl⟩
      obtain ⟨ob, hobb⟩ : ∃ ob, decide (0 ≤ o ∧ o ≤ 255) = ob := ⟨_, rfl⟩
      obtain ⟨W1, hW1⟩ : ∃ W1, wr.alloc (.cells #[.int .i64 x, .int .i64 y, .int .i64 o, .bool gn] 35) = W1 := ⟨_, rfl⟩
      have hbn : Below wr.heap.size wr W1 := by rw [← hW1]; exact below_new (Below.refl _ _) _
      have hB1 : Blk W1 wr.heap.size 35 #[.int .i64 x, .int .i64 y, .int .i64 o, .bool gn] := by rw [← hW1]; exact Blk.new wr _ _
      have hbw1 := below_on hbw hbn
      have q0 := hB1.cell (i := 0) rfl
      have q1 := hB1.cell (i := 1) rfl
      have q2 := hB1.cell (i := 2) rfl
      have m1 := cell_later hbn g1
      have m2 := cell_later hbn g2
      have cH := fun wx (hb : Below W1.heap.size W1 wx) => NE.out wx (below_on hbw1 hb) x y
      have cI := fun wx (hb : Below W1.heap.size W1 wx) => NH.out wx (below_on hbw1 hb) o
      have cO := fun wx => NO.out wx o
      rw [hhs] at cH hno hnx
      rw [hib] at cI hno hnx
      rw [hobb] at cO
      have CH := Lib.hid cH
      have CI := Lib.hid cI
      have CO := Lib.hid cO
      have HNo := Lib.hid hno
      have NX := Lib.hid hnx
      have PV := Lib.hid hprev
      have HZ := Lib.hid hz
      have HNT := Lib.hid hnext
      have HW1 := Lib.hid hW1
      have OB := Lib.hid hobb
      have B1 := Lib.hid hB1
      clear hcA hno hnx hprev cH cI cO hW1 hob hx hy hgn ho hhs hib hln hz hnext hobb hB1
      have hcs : (decide (o ≤ ln) = true ∧ o ≤ ln) ∨ (decide (o ≤ ln) = false ∧ ¬ o ≤ ln ∧ ob = false) ∨ (decide (o ≤ ln) = false ∧ ¬ o ≤ ln ∧ ob = true ∧ ib = true) ∨ (decide (o ≤ ln) = false ∧ ¬ o ≤ ln ∧ ob = true ∧ ib = false ∧ hs = false) ∨ (decide (o ≤ ln) = false ∧ ¬ o ≤ ln ∧ ob = true ∧ ib = false ∧ hs = true) := by
        by_cases h1 : o ≤ ln
        · exact .inl ⟨decide_eq_true h1, h1⟩
        · refine .inr ?_
          have d := decide_eq_false h1
          cases ob
          · exact .inl ⟨d, h1, rfl⟩
          · cases ib
            · cases hs
              · exact .inr (.inr (.inl ⟨d, h1, rfl, rfl, rfl⟩))
              · exact .inr (.inr (.inr ⟨d, h1, rfl, rfl, rfl⟩))
            · exact .inr (.inl ⟨d, h1, rfl, rfl⟩)
      rcases hcs with ⟨d, hd⟩ | ⟨d, hd, rfl⟩ | ⟨d, hd, rfl, rfl⟩ | ⟨d, hd, rfl, rfl, rfl⟩ | ⟨d, hd, rfl, rfl, rfl⟩
      · have HNO := Lib.hid (HNo.out (fun h => by
          have h4 := h.2.2.2
          by_cases hk0 : k = 0
          · have := HZ.out hk0; have := h.2.1.1; omega
          · have := h4 (by omega); rw [PV.out (by omega)] at this; omega))
        go_wp2_with fail
        have ba0 := Below.refl W1.heap.size W1
        skip
        go_ret
        exact ⟨by rw [HNO.out]; rfl, below_on hb0 (by rw [HW1.out]; exact hbw1)⟩
      · have HNO := Lib.hid (HNo.out (fun h => by have := of_decide_eq_false OB.out; exact this h.2.1))
        go_wp2_with fail
        rw [HW1.out]
        have ba0 := Below.refl W1.heap.size W1
        refine (CO.out _).mono ?_
        rintro e w1 ⟨rfl, b1⟩
        have ba1 := below_on ba0 b1
        have q0_1 := cell_later ba1 q0
        have q1_1 := cell_later ba1 q1
        have q2_1 := cell_later ba1 q2
        have m1_1 := cell_later ba1 m1
        have m2_1 := cell_later ba1 m2
        go_wp2
        go_ret
        exact ⟨by rw [HNO.out]; rfl, below_on hb0 (below_on hbw1 ba1)⟩
      · have HNO := Lib.hid (HNo.out (fun h => by have := h.2.2.1; cases this))
        go_wp2_with fail
        rw [HW1.out]
        have ba0 := Below.refl W1.heap.size W1
        refine (CO.out _).mono ?_
        rintro e w1 ⟨rfl, b1⟩
        have ba1 := below_on ba0 b1
        have q0_1 := cell_later ba1 q0
        have q1_1 := cell_later ba1 q1
        have q2_1 := cell_later ba1 q2
        have m1_1 := cell_later ba1 m1
        have m2_1 := cell_later ba1 m2
        go_wp2_with fail
        refine (CI.out _ ba1).mono ?_
        rintro e w2 ⟨rfl, b2⟩
        have ba2 := below_on ba1 b2
        have q0_2 := cell_later ba2 q0
        have q1_2 := cell_later ba2 q1
        have q2_2 := cell_later ba2 q2
        have m1_2 := cell_later ba2 m1
        have m2_2 := cell_later ba2 m2
        go_wp2
        go_ret
        exact ⟨by rw [HNO.out]; rfl, below_on hb0 (below_on hbw1 ba2)⟩
      · have HNO := Lib.hid (HNo.out (fun h => by have := h.1; cases this))
        go_wp2_with fail
        rw [HW1.out]
        have ba0 := Below.refl W1.heap.size W1
        refine (CO.out _).mono ?_
        rintro e w1 ⟨rfl, b1⟩
        have ba1 := below_on ba0 b1
        have q0_1 := cell_later ba1 q0
        have q1_1 := cell_later ba1 q1
        have q2_1 := cell_later ba1 q2
        have m1_1 := cell_later ba1 m1
        have m2_1 := cell_later ba1 m2
        go_wp2_with fail
        refine (CI.out _ ba1).mono ?_
        rintro e w2 ⟨rfl, b2⟩
        have ba2 := below_on ba1 b2
        have q0_2 := cell_later ba2 q0
        have q1_2 := cell_later ba2 q1
        have q2_2 := cell_later ba2 q2
        have m1_2 := cell_later ba2 m1
        have m2_2 := cell_later ba2 m2
        go_wp2_with fail
        refine (CH.out _ ba2).mono ?_
        rintro e w3 ⟨rfl, b3⟩
        have ba3 := below_on ba2 b3
        have q0_3 := cell_later ba3 q0
        have q1_3 := cell_later ba3 q1
        have q2_3 := cell_later ba3 q2
        have m1_3 := cell_later ba3 m1
        have m2_3 := cell_later ba3 m2
        go_wp2
        go_ret
        exact ⟨by rw [HNO.out]; rfl, below_on hb0 (below_on hbw1 ba3)⟩
      · have HT := Lib.hid (NX.out rfl (of_decide_eq_true OB.out) rfl (fun h => by rw [PV.out h]; omega))
        go_wp2_with fail
        rw [HW1.out]
        have ba0 := Below.refl W1.heap.size W1
        refine (CO.out _).mono ?_
        rintro e w1 ⟨rfl, b1⟩
        have ba1 := below_on ba0 b1
        have q0_1 := cell_later ba1 q0
        have q1_1 := cell_later ba1 q1
        have q2_1 := cell_later ba1 q2
        have m1_1 := cell_later ba1 m1
        have m2_1 := cell_later ba1 m2
        go_wp2_with fail
        refine (CI.out _ ba1).mono ?_
        rintro e w2 ⟨rfl, b2⟩
        have ba2 := below_on ba1 b2
        have q0_2 := cell_later ba2 q0
        have q1_2 := cell_later ba2 q1
        have q2_2 := cell_later ba2 q2
        have m1_2 := cell_later ba2 m1
        have m2_2 := cell_later ba2 m2
        go_wp2_with fail
        refine (CH.out _ ba2).mono ?_
        rintro e w3 ⟨rfl, b3⟩
        have ba3 := below_on ba2 b3
        have q0_3 := cell_later ba3 q0
        have q1_3 := cell_later ba3 q1
        have q2_3 := cell_later ba3 q2
        have m1_3 := cell_later ba3 m1
        have m2_3 := cell_later ba3 m2
        go_wp2_with fail
        go_roundw
        case rel => exact ⟨k + 1, by omega, by go_num, by rw [HNT.out], HT.out, below_on hbw1 ba3⟩
        case measure => simp [intOf]; omega
    · have hkl : k = n.ws.length := by omega
      have hok : Nt.wsOk n = true := (Nt.wsOk_iff n).2 (by rw [← hkl]; exact HALL.out)
      have HOK := Lib.hid hok
      clear hok
      subst hkl
      go_wp2
      go_ret
      exact ⟨by rw [HOK.out]; rfl, below_on hb0 hbw⟩

set_option maxRecDepth 100000 in
set_option maxHeartbeats 6400000 in
theorem dnformed_any (S E B V : Option Addr) (cs ce cb cv : Nat) (n : Note) (w : World) (h1 : NoteAt w S E B V cs ce cb cv n) :
    Calls Try.prog 12 #[.agg (noteCells S E B V cs ce cb cv n)] w (Says (.bool (Nt.fmd n)) w) := by
  obtain ⟨W, hW⟩ : ∃ W, w.alloc (.cells (noteCells S E B V cs ce cb cv n) 26) = W := ⟨_, rfl⟩
  have hb0 : Below w.heap.size w W := by rw [← hW]; exact below_new (Below.refl _ _) _
  have hB0 : Blk W w.heap.size 26 (noteCells S E B V cs ce cb cv n) := by rw [← hW]; exact Blk.new w _ _
  obtain ⟨c0, c1, c2, c3⟩ := note_cells hB0
  have p0 := c0
  rw [← hW] at p0
  have HN := Lib.hid (h1.later hb0)
  have HR := Lib.hid (show Nt.fmd n = (Ve.fmd n.s && (Ve.fmd n.e && (Ve.cov (Ve.cnt n.e) (Ve.cnt n.s) && (Sp.fmd n.b && Nt.wsOk n)))) from rfl)
  have N0 := Lib.hid (fun wx (hb : Below W.heap.size W wx) => formed_any S cs n.s wx (HN.out.hs.later hb))
  have N1 := Lib.hid (fun wx (hb : Below W.heap.size W wx) => formed_any E ce n.e wx (HN.out.he.later hb))
  have N2 := Lib.hid (fun wx (hb : Below W.heap.size W wx) => covers_any E S ce cs n.e n.s wx (HN.out.he.later hb) (HN.out.hs.later hb))
  have N3 := Lib.hid (fun wx (hb : Below W.heap.size W wx) => spformed_any B cb n.b wx (HN.out.hb.later hb))
  have N4 := Lib.hid (fun wx (hb : Below W.heap.size W wx) => (show Calls Try.prog 36 #[.agg #[.slice S n.s.length cs, .slice E n.e.length ce, .slice B n.b.length cb, .slice V n.ws.length cv]] wx (Says (.bool (Nt.wsOk n)) wx) from nformedWrites_any S E B V cs ce cb cv n wx (HN.out.later hb)))
  obtain ⟨x0, hx0⟩ : ∃ x, Ve.fmd n.s = x := ⟨_, rfl⟩
  obtain ⟨x1, hx1⟩ : ∃ x, Ve.fmd n.e = x := ⟨_, rfl⟩
  obtain ⟨x2, hx2⟩ : ∃ x, Ve.cov (Ve.cnt n.e) (Ve.cnt n.s) = x := ⟨_, rfl⟩
  obtain ⟨x3, hx3⟩ : ∃ x, Sp.fmd n.b = x := ⟨_, rfl⟩
  obtain ⟨x4, hx4⟩ : ∃ x, Nt.wsOk n = x := ⟨_, rfl⟩
  rw [hx0] at N0 HR
  rw [hx1] at N1 HR
  rw [hx2] at N2 HR
  rw [hx3] at N3 HR
  rw [hx4] at N4 HR
  have HW := Lib.hid hW
  clear hW hx0 hx1 hx2 hx3 hx4 hB0 h1
  have bb0 := Below.refl W.heap.size W
  cases x0 with
  | false =>
    go_enter Try.func12, Try.ntmps12
    go_wp2_with fail
    rw [HW.out]
    refine (N0.out _ bb0).mono ?_
    rintro e w1 ⟨rfl, b1⟩
    have bb1 := below_on bb0 b1
    have c0_1 := cell_later bb1 c0
    have c1_1 := cell_later bb1 c1
    have c2_1 := cell_later bb1 c2
    have c3_1 := cell_later bb1 c3
    clear p0
    go_wp2
    go_ret
    exact ⟨by rw [HR.out]; rfl, below_on hb0 bb1⟩
  | true =>
  cases x1 with
  | false =>
    go_enter Try.func12, Try.ntmps12
    go_wp2_with fail
    rw [HW.out]
    refine (N0.out _ bb0).mono ?_
    rintro e w1 ⟨rfl, b1⟩
    have bb1 := below_on bb0 b1
    have c0_1 := cell_later bb1 c0
    have c1_1 := cell_later bb1 c1
    have c2_1 := cell_later bb1 c2
    have c3_1 := cell_later bb1 c3
    clear p0
    go_wp2_with fail
    refine (N1.out _ bb1).mono ?_
    rintro e w2 ⟨rfl, b2⟩
    have bb2 := below_on bb1 b2
    have c0_2 := cell_later bb2 c0
    have c1_2 := cell_later bb2 c1
    have c2_2 := cell_later bb2 c2
    have c3_2 := cell_later bb2 c3
    clear c0_1 c1_1 c2_1 c3_1
    go_wp2
    go_ret
    exact ⟨by rw [HR.out]; rfl, below_on hb0 bb2⟩
  | true =>
  cases x2 with
  | false =>
    go_enter Try.func12, Try.ntmps12
    go_wp2_with fail
    rw [HW.out]
    refine (N0.out _ bb0).mono ?_
    rintro e w1 ⟨rfl, b1⟩
    have bb1 := below_on bb0 b1
    have c0_1 := cell_later bb1 c0
    have c1_1 := cell_later bb1 c1
    have c2_1 := cell_later bb1 c2
    have c3_1 := cell_later bb1 c3
    clear p0
    go_wp2_with fail
    refine (N1.out _ bb1).mono ?_
    rintro e w2 ⟨rfl, b2⟩
    have bb2 := below_on bb1 b2
    have c0_2 := cell_later bb2 c0
    have c1_2 := cell_later bb2 c1
    have c2_2 := cell_later bb2 c2
    have c3_2 := cell_later bb2 c3
    clear c0_1 c1_1 c2_1 c3_1
    go_wp2_with fail
    refine (N2.out _ bb2).mono ?_
    rintro e w3 ⟨rfl, b3⟩
    have bb3 := below_on bb2 b3
    have c0_3 := cell_later bb3 c0
    have c1_3 := cell_later bb3 c1
    have c2_3 := cell_later bb3 c2
    have c3_3 := cell_later bb3 c3
    clear c0_2 c1_2 c2_2 c3_2
    go_wp2
    go_ret
    exact ⟨by rw [HR.out]; rfl, below_on hb0 bb3⟩
  | true =>
  cases x3 with
  | false =>
    go_enter Try.func12, Try.ntmps12
    go_wp2_with fail
    rw [HW.out]
    refine (N0.out _ bb0).mono ?_
    rintro e w1 ⟨rfl, b1⟩
    have bb1 := below_on bb0 b1
    have c0_1 := cell_later bb1 c0
    have c1_1 := cell_later bb1 c1
    have c2_1 := cell_later bb1 c2
    have c3_1 := cell_later bb1 c3
    clear p0
    go_wp2_with fail
    refine (N1.out _ bb1).mono ?_
    rintro e w2 ⟨rfl, b2⟩
    have bb2 := below_on bb1 b2
    have c0_2 := cell_later bb2 c0
    have c1_2 := cell_later bb2 c1
    have c2_2 := cell_later bb2 c2
    have c3_2 := cell_later bb2 c3
    clear c0_1 c1_1 c2_1 c3_1
    go_wp2_with fail
    refine (N2.out _ bb2).mono ?_
    rintro e w3 ⟨rfl, b3⟩
    have bb3 := below_on bb2 b3
    have c0_3 := cell_later bb3 c0
    have c1_3 := cell_later bb3 c1
    have c2_3 := cell_later bb3 c2
    have c3_3 := cell_later bb3 c3
    clear c0_2 c1_2 c2_2 c3_2
    go_wp2_with fail
    refine (N3.out _ bb3).mono ?_
    rintro e w4 ⟨rfl, b4⟩
    have bb4 := below_on bb3 b4
    have c0_4 := cell_later bb4 c0
    have c1_4 := cell_later bb4 c1
    have c2_4 := cell_later bb4 c2
    have c3_4 := cell_later bb4 c3
    clear c0_3 c1_3 c2_3 c3_3
    go_wp2
    go_ret
    exact ⟨by rw [HR.out]; rfl, below_on hb0 bb4⟩
  | true =>
  go_enter Try.func12, Try.ntmps12
  go_wp2_with fail
  rw [HW.out]
  refine (N0.out _ bb0).mono ?_
  rintro e w1 ⟨rfl, b1⟩
  have bb1 := below_on bb0 b1
  have c0_1 := cell_later bb1 c0
  have c1_1 := cell_later bb1 c1
  have c2_1 := cell_later bb1 c2
  have c3_1 := cell_later bb1 c3
  clear p0
  go_wp2_with fail
  refine (N1.out _ bb1).mono ?_
  rintro e w2 ⟨rfl, b2⟩
  have bb2 := below_on bb1 b2
  have c0_2 := cell_later bb2 c0
  have c1_2 := cell_later bb2 c1
  have c2_2 := cell_later bb2 c2
  have c3_2 := cell_later bb2 c3
  clear c0_1 c1_1 c2_1 c3_1
  go_wp2_with fail
  refine (N2.out _ bb2).mono ?_
  rintro e w3 ⟨rfl, b3⟩
  have bb3 := below_on bb2 b3
  have c0_3 := cell_later bb3 c0
  have c1_3 := cell_later bb3 c1
  have c2_3 := cell_later bb3 c2
  have c3_3 := cell_later bb3 c3
  clear c0_2 c1_2 c2_2 c3_2
  go_wp2_with fail
  refine (N3.out _ bb3).mono ?_
  rintro e w4 ⟨rfl, b4⟩
  have bb4 := below_on bb3 b4
  have c0_4 := cell_later bb4 c0
  have c1_4 := cell_later bb4 c1
  have c2_4 := cell_later bb4 c2
  have c3_4 := cell_later bb4 c3
  clear c0_3 c1_3 c2_3 c3_3
  go_wp2_with fail
  refine (N4.out _ bb4).mono ?_
  rintro e w5 ⟨rfl, b5⟩
  have bb5 := below_on bb4 b5
  have c0_5 := cell_later bb5 c0
  have c1_5 := cell_later bb5 c1
  have c2_5 := cell_later bb5 c2
  have c3_5 := cell_later bb5 c3
  clear c0_4 c1_4 c2_4 c3_4
  go_wp2
  go_ret
  exact ⟨by rw [HR.out]; rfl, below_on hb0 bb5⟩

set_option maxHeartbeats 800000 in
theorem dnfits_any (S E B V A : Option Addr) (cs ce cb cv c : Nat) (n : Note) (l : List (Int × Int)) (w : World) (h1 : NoteAt w S E B V cs ce cb cv n) (h2 : OneL w A c l) :
    Calls Try.prog 14 #[.agg (noteCells S E B V cs ce cb cv n), .slice A l.length c] w (Says (.bool (Ve.cov (Ve.cnt l) (Ve.cnt n.s))) w) := by
  obtain ⟨W, hW⟩ : ∃ W, w.alloc (.cells (noteCells S E B V cs ce cb cv n) 26) = W := ⟨_, rfl⟩
  have hb0 : Below w.heap.size w W := by rw [← hW]; exact below_new (Below.refl _ _) _
  have hB0 : Blk W w.heap.size 26 (noteCells S E B V cs ce cb cv n) := by rw [← hW]; exact Blk.new w _ _
  obtain ⟨c0, c1, c2, c3⟩ := note_cells hB0
  have hO := h2.later hb0
  have hS := h1.hs.later hb0
  have N0 := Lib.hid (covers_any A S c cs l n.s W hO hS)
  have p0 := c0
  rw [← hW] at p0
  have HW := Lib.hid hW
  clear hW hB0 h1 h2 hO hS
  go_enter Try.func14, Try.ntmps14
  go_wp2_with fail
  rw [HW.out]
  refine N0.out.mono ?_
  rintro e w1 ⟨rfl, b1⟩
  go_wp2
  go_ret
  exact ⟨rfl, below_on hb0 b1⟩

set_option maxHeartbeats 800000 in
theorem dnnews_any (S E B V A : Option Addr) (cs ce cb cv c : Nat) (n : Note) (l : List (Int × Int)) (w : World) (h1 : NoteAt w S E B V cs ce cb cv n) (h2 : OneL w A c l) :
    Calls Try.prog 16 #[.agg (noteCells S E B V cs ce cb cv n), .slice A l.length c] w (Says (.bool (!Ve.cov (Ve.cnt l) (Ve.cnt n.e))) w) := by
  obtain ⟨W, hW⟩ : ∃ W, w.alloc (.cells (noteCells S E B V cs ce cb cv n) 26) = W := ⟨_, rfl⟩
  have hb0 : Below w.heap.size w W := by rw [← hW]; exact below_new (Below.refl _ _) _
  have hB0 : Blk W w.heap.size 26 (noteCells S E B V cs ce cb cv n) := by rw [← hW]; exact Blk.new w _ _
  obtain ⟨c0, c1, c2, c3⟩ := note_cells hB0
  have hO := h2.later hb0
  have hS := h1.he.later hb0
  have N0 := Lib.hid (covers_any A E c ce l n.e W hO hS)
  have p0 := c1
  rw [← hW] at p0
  have HW := Lib.hid hW
  clear hW hB0 h1 h2 hO hS
  go_enter Try.func16, Try.ntmps16
  go_wp2_with fail
  rw [HW.out]
  refine N0.out.mono ?_
  rintro e w1 ⟨rfl, b1⟩
  go_wp2
  go_ret
  exact ⟨rfl, below_on hb0 b1⟩

end Go.Proofs.Ytoaclofobfaflaa
