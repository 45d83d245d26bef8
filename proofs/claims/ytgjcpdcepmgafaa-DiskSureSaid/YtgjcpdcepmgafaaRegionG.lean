/-
  A region that draws its order, over any invariant that speaks of which operations have been, of what they have yielded, and of the world. Nothing of the program is imported.
-/
import Derived.Test.YtgjcpdcepmgafaaRegion
namespace Go.Proofs.Ytgjcpdcepmgafaa
open Go.RowKit

section
variable {P : Program} {ops : Array Oper} {md : Region.Mode} {Q : Exit → Act → World → Prop} {n : Nat}
theorem wpAny_gen (hB : factsB md ops n = true) (T : (Nat → Value) → Act) (I : (Nat → Bool) → (Nat → Value) → World → Prop)
    (step : ∀ i, i < n → ∀ L v w, I L v w → L i = false → (∀ j ∈ deps md ops i, L j = true) → wpOp P ops Q i (fun a' w' => ∃ x, a' = T (upd v i x) ∧ I (fun j => if j = i then true else L j) (upd v i x) w') (T v) w)
    (done : ∀ L v w, I L v w → (∀ i, i < n → L i = true) → wpList P ops Q (ops.toList.drop n) (T v) w) :
    ∀ (f : Nat) (listed : Array Bool) (v : Nat → Value) (w : World), HeadInv md ops n listed → cntTo listed n = f → I (fun j => listed.getD j true) v w → wpAny P md ops Q (f + (ops.size - n)) listed (T v) w := by
  simp only [factsB, Bool.and_eq_true, decide_eq_true_eq] at hB
  obtain ⟨⟨⟨⟨hn, hs⟩, hc⟩, hd⟩, hq⟩ := hB
  intro f
  induction f with
  | zero =>
    intro listed v w inv hcnt hI
    have hall := cntTo_zero listed n hcnt
    have he : listed = headListed ops.size n := by
      apply Array.ext
      · rw [inv.size]; simp [headListed]
      · intro i h1 h2
        have hi : i < ops.size := by rw [← inv.size]; exact h1
        have e2 : (headListed ops.size n)[i] = decide (i < n) := by simp [headListed]
        rw [e2]
        by_cases hin : i < n
        · have := hall i hin
          simp [h1] at this
          rw [this, decide_eq_true hin]
        · have := inv.tail i (by omega) hi
          simp [h1] at this
          rw [this, decide_eq_false hin]
    rw [Nat.zero_add]
    have hl : (ops.toList.drop n).length = ops.size - n := by simp
    rw [← hl]
    refine wpAny_of_seq (ops.toList.drop n) n listed _ w (fun j => by simp) ?_ (done _ v w hI hall)
    rw [hl, he]
    exact hq
  | succ f ih =>
    intro listed v w inv hcnt hI
    obtain ⟨m, hm1, hm2, hm3⟩ := cntTo_pos listed n (by omega)
    have hmr : m ∈ Region.ready md ops listed := by
      have hms : m < ops.size := by omega
      refine mem_ready.2 ⟨hm2, ops[m], Array.getElem?_eq_getElem hms, fun e he hbind => ?_⟩
      have h1 := List.all_eq_true.1 hd m (List.mem_range.2 hms)
      have h2 : e.on ∈ deps md ops m := by
        unfold deps
        rw [Array.getElem?_eq_getElem hms]
        exact List.mem_map.2 ⟨e, List.mem_filter.2 ⟨Array.mem_toList_iff.2 he, hbind⟩, rfl⟩
      have h3 := of_decide_eq_true (List.all_eq_true.1 h1 _ h2)
      have h4 := hm3 e.on h3
      have h5 : e.on < listed.size := by rw [inv.size]; omega
      simp [h5] at h4 ⊢
      exact h4
    rw [show f + 1 + (ops.size - n) = (f + (ops.size - n)) + 1 from by omega]
    refine ⟨fun h0 => (by rw [h0] at hmr; cases hmr), fun i hi => ?_⟩
    have hin : i < n := by
      rcases Nat.lt_or_ge i n with h | h
      · exact h
      · exact absurd hi (tail_waits hs hc hn inv _ m rfl hm1 hm2 i h)
    obtain ⟨hun, oi, hoi, hafter⟩ := mem_ready.1 hi
    refine wpOp_mono ?_ (step i hin _ v w hI hun ?_)
    · rintro a' w' ⟨x, rfl, hI'⟩
      refine ih _ (upd v i x) w' (inv.set hi hin) (by have := cntTo_set listed i hun n hin; omega) ?_
      have hL : (fun j => (listed.setIfInBounds i true).getD j true) = fun j => if j = i then true else listed.getD j true := by
        funext j
        by_cases e : j = i
        · subst e
          rw [if_pos rfl]
          rcases Nat.lt_or_ge j listed.size with h' | h'
          · simp [h']
          · simp
        · rw [if_neg e, getD_set_ne true (fun h => e h.symm)]
      rw [hL]
      exact hI'
    · intro j hj
      unfold deps at hj
      rw [hoi] at hj
      obtain ⟨e, he, rfl⟩ := List.mem_map.1 hj
      obtain ⟨he1, he2⟩ := List.mem_filter.1 he
      have h1 := hafter e (Array.mem_toList_iff.1 he1) he2
      have h2 : e.on < listed.size := by
        rcases Nat.lt_or_ge e.on listed.size with h' | h'
        · exact h'
        · simp [Array.getElem?_eq_none h'] at h1
      show listed.getD e.on true = true
      simp [h2] at h1 ⊢
      exact h1


/-- **A region that draws its order, over any invariant.** -/
theorem wp_region_gen {id : Nat} {l : List Oper} {w : World} (n : Nat) (hm : P.follows .mixedOrders = true) (hB : factsB .any l.toArray n = true) (T : (Nat → Value) → Act) (v0 : Nat → Value) (I : (Nat → Bool) → (Nat → Value) → World → Prop)
    (start : ∀ L : Nat → Bool, (∀ i, i < n → L i = false) → I L v0 w.drew)
    (step : ∀ i, i < n → ∀ L v w', I L v w' → L i = false → (∀ j ∈ deps .any l.toArray i, L j = true) → wpOp P l.toArray Q i (fun a' w'' => ∃ x, a' = T (upd v i x) ∧ I (fun j => if j = i then true else L j) (upd v i x) w'') (T v) w')
    (done : ∀ L v w', I L v w' → (∀ i, i < n → L i = true) → wpList P l.toArray Q (l.drop n) (T v) w') :
    (Code.region id l.toArray true).wp P Q (T v0) w := by
  refine wp_region_any hm ?_
  have hn : n < l.toArray.size := by
    simp only [factsB, Bool.and_eq_true, decide_eq_true_eq] at hB
    exact hB.1.1.1.1
  have h := wpAny_gen hB T I step done
    n (Array.replicate l.toArray.size false) v0 w.drew
    ⟨by simp, fun j oj hj hl => (by rw [getD_replicate_false] at hl; cases hl), fun t ht ht' => (by rw [Array.getD_eq_getD_getElem?, Array.getElem?_replicate, if_pos ht']; rfl)⟩ (cntTo_none _ n (by omega))
    (start _ (fun i hi => by rw [Array.getD_eq_getD_getElem?, Array.getElem?_replicate, if_pos (by omega)]; rfl))
  rw [show n + (l.toArray.size - n) = l.toArray.size from by omega] at h
  exact h
end
end Go.Proofs.Ytgjcpdcepmgafaa
