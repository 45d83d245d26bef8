/-
  A region that draws its order, whose operations may make memory and hand back what depends on the order: each operation is walked once, over what is known of those that it waits for; the last ones, in one forced order, behind them. Nothing of the program is imported.
-/
import Derived.StillTail
import Derived.Below
import Derived.Test.YtmccednfaemiaaaStampPlain
namespace Go.Proofs.Ytmccednfaemiaaa
open Go.RowKit

/-- What operation i has yielded, written into the row of what has been yielded. -/
def upd (v : Nat → Value) (i : Nat) (x : Value) : Nat → Value := fun j => if j = i then x else v j
theorem upd_same (v : Nat → Value) (i : Nat) (x : Value) : upd v i x i = x := if_pos rfl
theorem upd_other (v : Nat → Value) (i : Nat) (x : Value) {j : Nat} (h : j ≠ i) : upd v i x j = v j := if_neg h

/-- The operations that one waits for. -/
def deps (md : Region.Mode) (ops : Array Oper) (i : Nat) : List Nat := ((ops[i]?).map fun o => (o.after.toList.filter fun e => Region.binds md e).map (·.on)).getD []
def headListed (size n : Nat) : Array Bool := ((List.range size).map fun i => decide (i < n)).toArray
/-- All of it asked at once of the region's text: every one waits for earlier ones; the tail waits for all, and for itself in its order. -/
def factsB (md : Region.Mode) (ops : Array Oper) (n : Nat) : Bool :=
  decide (n < ops.size) && Region.sinkB md ops n && Region.chainB md ops n && ((List.range ops.size).all fun i => (deps md ops i).all fun j => decide (j < i)) && Region.seqB md ops (ops.size - n) n (headListed ops.size n)

def cntTo (listed : Array Bool) : Nat → Nat
  | 0 => 0
  | k + 1 => cntTo listed k + (if listed.getD k true = false then 1 else 0)
theorem cntTo_set_ge (listed : Array Bool) (j : Nat) : ∀ k, k ≤ j → cntTo (listed.setIfInBounds j true) k = cntTo listed k
  | 0, _ => rfl
  | k + 1, h => by
    rw [cntTo, cntTo, cntTo_set_ge listed j k (by omega), getD_set_ne true (by omega)]
theorem cntTo_set (listed : Array Bool) (j : Nat) (hj : listed.getD j true = false) : ∀ k, j < k → cntTo (listed.setIfInBounds j true) k + 1 = cntTo listed k
  | 0, h => by omega
  | k + 1, h => by
    by_cases e : j = k
    · subst e
      have hs : (listed.setIfInBounds j true).getD j true = true := by
        rcases Nat.lt_or_ge j listed.size with h' | h'
        · simp [h']
        · simp [Array.getElem?_eq_none h'] at hj
      rw [cntTo, cntTo, cntTo_set_ge listed j j (Nat.le_refl _), hs, hj]
      simp
    · have := cntTo_set listed j hj k (by omega)
      rw [cntTo, cntTo, getD_set_ne true e]
      omega
theorem cntTo_zero (listed : Array Bool) : ∀ k, cntTo listed k = 0 → ∀ i, i < k → listed.getD i true = true
  | 0, _, i, hi => by omega
  | k + 1, h, i, hi => by
    rw [cntTo] at h
    by_cases e : i = k
    · subst e
      cases hl : listed.getD i true with
      | true => rfl
      | false => rw [hl] at h; simp at h
    · exact cntTo_zero listed k (by omega) i (by omega)
theorem cntTo_pos (listed : Array Bool) : ∀ k, 0 < cntTo listed k → ∃ i, i < k ∧ listed.getD i true = false ∧ ∀ j, j < i → listed.getD j true = true
  | 0, h => by simp [cntTo] at h
  | k + 1, h => by
    by_cases h0 : 0 < cntTo listed k
    · obtain ⟨i, h1, h2, h3⟩ := cntTo_pos listed k h0
      exact ⟨i, by omega, h2, h3⟩
    · rw [cntTo] at h
      refine ⟨k, by omega, ?_, cntTo_zero listed k (by omega)⟩
      cases hl : listed.getD k true with
      | false => rfl
      | true => rw [hl] at h; simp at h; omega
theorem cntTo_none (size : Nat) : ∀ k, k ≤ size → cntTo (Array.replicate size false) k = k
  | 0, _ => rfl
  | k + 1, h => by
    rw [cntTo, cntTo_none size k (by omega)]
    have : (Array.replicate size false).getD k true = false := by simp [show k < size from h]
    rw [this]
    simp

section
variable {P : Program} {ops : Array Oper} {md : Region.Mode} {Q : Exit → Act → World → Prop}

theorem wpAny_facts {n : Nat} (hB : factsB md ops n = true) (T : (Nat → Value) → Act) (Ψ : Nat → Value → World → Prop) (R : Nat → Nat → Value → Value → Prop) (Rel : World → World → Prop) (trans : ∀ {w1 w2 w3}, Rel w1 w2 → Rel w2 w3 → Rel w1 w3) (W0 : World)
    (stab : ∀ i x w w', Ψ i x w → Rel w w' → Ψ i x w')
    (step : ∀ i, i < n → ∀ v w, Rel W0 w → (∀ j ∈ deps md ops i, Ψ j (v j) w) → wpOp P ops Q i (fun a' w' => ∃ x, a' = T (upd v i x) ∧ Rel w w' ∧ Ψ i x w' ∧ ∀ j y, j ≠ i → Ψ j y w → R i j x y ∧ R j i y x) (T v) w)
    (done : ∀ v w, Rel W0 w → (∀ i, i < n → Ψ i (v i) w) → (∀ i j, i < n → j < n → i ≠ j → R i j (v i) (v j)) → wpList P ops Q (ops.toList.drop n) (T v) w) :
    ∀ (f : Nat) (listed : Array Bool) (v : Nat → Value) (w : World), HeadInv md ops n listed → cntTo listed n = f → Rel W0 w → (∀ i, i < n → listed.getD i true = true → Ψ i (v i) w) → (∀ i j, i < n → j < n → i ≠ j → listed.getD i true = true → listed.getD j true = true → R i j (v i) (v j)) → wpAny P md ops Q (f + (ops.size - n)) listed (T v) w := by
  simp only [factsB, Bool.and_eq_true, decide_eq_true_eq] at hB
  obtain ⟨⟨⟨⟨hn, hs⟩, hc⟩, hd⟩, hq⟩ := hB
  intro f
  induction f with
  | zero =>
    intro listed v w inv hcnt hb hfacts hrel
    have hall := cntTo_zero listed n hcnt
    have he : listed = headListed ops.size n := by
      apply Array.ext
      · rw [inv.size]; simp [headListed]
      · intro i h1 h2
        have hi : i < ops.size := by rw [← inv.size]; exact h1
        have e2 : (headListed ops.size n)[i] = decide (i < n) := by simp [headListed]
        rw [e2]
        by_cases hin : i < n
        · have := hall i hin
          simp [h1] at this
          rw [this, decide_eq_true hin]
        · have := inv.tail i (by omega) hi
          simp [h1] at this
          rw [this, decide_eq_false hin]
    rw [Nat.zero_add]
    have hl : (ops.toList.drop n).length = ops.size - n := by simp
    rw [← hl]
    refine wpAny_of_seq (ops.toList.drop n) n listed _ w (fun j => by simp) ?_ (done v w hb (fun i hi => hfacts i hi (hall i hi)) (fun i j hi hj hne => hrel i j hi hj hne (hall i hi) (hall j hj)))
    rw [hl, he]
    exact hq
  | succ f ih =>
    intro listed v w inv hcnt hb hfacts hrel
    obtain ⟨m, hm1, hm2, hm3⟩ := cntTo_pos listed n (by omega)
    have hmr : m ∈ Region.ready md ops listed := by
      have hms : m < ops.size := by omega
      refine mem_ready.2 ⟨hm2, ops[m], Array.getElem?_eq_getElem hms, fun e he hbind => ?_⟩
      have h1 := List.all_eq_true.1 hd m (List.mem_range.2 hms)
      have h2 : e.on ∈ deps md ops m := by
        unfold deps
        rw [Array.getElem?_eq_getElem hms]
        exact List.mem_map.2 ⟨e, List.mem_filter.2 ⟨Array.mem_toList_iff.2 he, hbind⟩, rfl⟩
      have h3 := of_decide_eq_true (List.all_eq_true.1 h1 _ h2)
      have h4 := hm3 e.on h3
      have h5 : e.on < listed.size := by rw [inv.size]; omega
      simp [h5] at h4 ⊢
      exact h4
    rw [show f + 1 + (ops.size - n) = (f + (ops.size - n)) + 1 from by omega]
    refine ⟨fun h0 => (by rw [h0] at hmr; cases hmr), fun i hi => ?_⟩
    have hin : i < n := by
      rcases Nat.lt_or_ge i n with h | h
      · exact h
      · exact absurd hi (tail_waits hs hc hn inv _ m rfl hm1 hm2 i h)
    obtain ⟨hun, oi, hoi, hafter⟩ := mem_ready.1 hi
    refine wpOp_mono ?_ (step i hin v w hb ?_)
    · rintro a' w' ⟨x, rfl, hb', hx, hrx⟩
      refine ih _ (upd v i x) w' (inv.set hi hin) (by have := cntTo_set listed i hun n hin; omega) (trans hb hb') (fun j hj hl => ?_) (fun p q hp hq hpq hlp hlq => ?_)
      · by_cases e : j = i
        · subst e
          rw [upd_same]
          exact hx
        · rw [upd_other v i x e]
          rw [getD_set_ne true (fun h => e h.symm)] at hl
          exact stab j _ w w' (hfacts j hj hl) hb'
      · by_cases ep : p = i
        · subst ep
          rw [upd_same, upd_other v p x (fun h => hpq h.symm)]
          rw [getD_set_ne true hpq] at hlq
          exact (hrx q _ (fun h => hpq h.symm) (hfacts q hq hlq)).1
        · rw [getD_set_ne true (fun h => ep h.symm)] at hlp
          by_cases eq : q = i
          · subst eq
            rw [upd_same, upd_other v q x ep]
            exact (hrx p _ ep (hfacts p hp hlp)).2
          · rw [getD_set_ne true (fun h => eq h.symm)] at hlq
            rw [upd_other v i x ep, upd_other v i x eq]
            exact hrel p q hp hq hpq hlp hlq
    · intro j hj
      unfold deps at hj
      rw [hoi] at hj
      obtain ⟨e, he, rfl⟩ := List.mem_map.1 hj
      obtain ⟨he1, he2⟩ := List.mem_filter.1 he
      have h1 := hafter e (Array.mem_toList_iff.1 he1) he2
      have h2 : e.on < listed.size := by
        rcases Nat.lt_or_ge e.on listed.size with h' | h'
        · exact h'
        · simp [Array.getElem?_eq_none h'] at h1
      have h3 : listed.getD e.on true = true := by simp [h2] at h1 ⊢; exact h1
      have h4 : e.on < n := by
        rcases Nat.lt_or_ge e.on n with h' | h'
        · exact h'
        · have := inv.tail e.on h' (by rw [← inv.size]; exact h2)
          rw [h3] at this
          cases this
      exact hfacts e.on h4 h3

/-- **A region that draws its order, whose operations make memory.** R: what two of them are to one another (two new blocks are not one). -/
theorem wp_region_facts2 {id : Nat} {l : List Oper} {w : World} (n : Nat) (hm : P.follows .mixedOrders = true) (hB : factsB .any l.toArray n = true) (T : (Nat → Value) → Act) (v0 : Nat → Value) (Ψ : Nat → Value → World → Prop) (R : Nat → Nat → Value → Value → Prop) (Rel : World → World → Prop) (trans : ∀ {w1 w2 w3}, Rel w1 w2 → Rel w2 w3 → Rel w1 w3) (hself : ∀ w, Rel w w) (hdrew : Rel w w.drew)
    (stab : ∀ i x w w', Ψ i x w → Rel w w' → Ψ i x w')
    (step : ∀ i, i < n → ∀ v w', Rel w w' → (∀ j ∈ deps .any l.toArray i, Ψ j (v j) w') → wpOp P l.toArray Q i (fun a' w'' => ∃ x, a' = T (upd v i x) ∧ Rel w' w'' ∧ Ψ i x w'' ∧ ∀ j y, j ≠ i → Ψ j y w' → R i j x y ∧ R j i y x) (T v) w')
    (done : ∀ v w', Rel w w' → (∀ i, i < n → Ψ i (v i) w') → (∀ i j, i < n → j < n → i ≠ j → R i j (v i) (v j)) → wpList P l.toArray Q (l.drop n) (T v) w') :
    (Code.region id l.toArray true).wp P Q (T v0) w := by
  refine wp_region_any hm ?_
  have hn : n < l.toArray.size := by
    simp only [factsB, Bool.and_eq_true, decide_eq_true_eq] at hB
    exact hB.1.1.1.1
  have hw : ∀ w', Rel { w with drawn := w.drawn + 1 } w' → Rel w w' := fun w' h => trans hdrew h
  have h := wpAny_facts hB T Ψ R Rel trans { w with drawn := w.drawn + 1 } stab (fun i hi v w' hb hd => step i hi v w' (hw w' hb) hd) (fun v w' hb hf hr => done v w' (hw w' hb) hf hr)
    n (Array.replicate l.toArray.size false) v0 { w with drawn := w.drawn + 1 }
    ⟨by simp, fun j oj hj hl => (by rw [getD_replicate_false] at hl; cases hl), fun t ht ht' => (by rw [Array.getD_eq_getD_getElem?, Array.getElem?_replicate, if_pos ht']; rfl)⟩ (cntTo_none _ n (by omega)) (hself _) (fun i hi hl => by
      rw [Array.getD_eq_getD_getElem?, Array.getElem?_replicate, if_pos (by omega)] at hl
      cases hl) (fun i j hi hj _ hl _ => by
      rw [Array.getD_eq_getD_getElem?, Array.getElem?_replicate, if_pos (by omega)] at hl
      cases hl)
  rw [show n + (l.toArray.size - n) = l.toArray.size from by omega] at h
  exact h
/-- **A region that draws its order, whose operations make memory.** -/
theorem wp_region_facts {id : Nat} {l : List Oper} {w : World} (n : Nat) (hm : P.follows .mixedOrders = true) (hB : factsB .any l.toArray n = true) (T : (Nat → Value) → Act) (v0 : Nat → Value) (Ψ : Nat → Value → World → Prop) (Rel : World → World → Prop) (trans : ∀ {w1 w2 w3}, Rel w1 w2 → Rel w2 w3 → Rel w1 w3) (hself : ∀ w, Rel w w) (hdrew : Rel w w.drew)
    (stab : ∀ i x w w', Ψ i x w → Rel w w' → Ψ i x w')
    (step : ∀ i, i < n → ∀ v w', Rel w w' → (∀ j ∈ deps .any l.toArray i, Ψ j (v j) w') → wpOp P l.toArray Q i (fun a' w'' => ∃ x, a' = T (upd v i x) ∧ Rel w' w'' ∧ Ψ i x w'') (T v) w')
    (done : ∀ v w', Rel w w' → (∀ i, i < n → Ψ i (v i) w') → wpList P l.toArray Q (l.drop n) (T v) w') :
    (Code.region id l.toArray true).wp P Q (T v0) w :=
  wp_region_facts2 n hm hB T v0 Ψ (fun _ _ _ _ => True) Rel trans hself hdrew stab
    (fun i hi v w' hb hd => wpOp_mono (fun _ _ ⟨x, h1, h2, h3⟩ => ⟨x, h1, h2, h3, fun _ _ _ _ => ⟨trivial, trivial⟩⟩) (step i hi v w' hb hd))
    (fun v w' hb hf _ => done v w' hb hf)
/-- One operation, walked as a list of one. -/
theorem wpOp_one {i : Nat} {o : Oper} {K : Act → World → Prop} {a : Act} {w : World} (ho : ops[i]? = some o) (h : wpList P ops (Exit.then K Q) [o] a w) : wpOp P ops Q i K a w := by
  unfold wpOp
  rw [ho]
  unfold wpList at h
  simp only
  split
  · rename_i hw
    rw [if_pos hw] at h
    rcases h with h | ⟨h1, h2⟩
    · left
      unfold Oper.wp at *
      generalize (execOp a.eval o).run P w = r at *
      cases r with
      | ok nx w' => cases nx <;> simp only [Oper.upon] at h ⊢ <;> first | exact h | (refine h.mono ?_; intro e w'' hq; cases e <;> exact hq)
      | halt x w' => cases x <;> simp only [Oper.upon] at h ⊢ <;> exact h
    · exact .inr ⟨h1, h2⟩
  · rename_i hw
    rw [if_neg hw] at h
    exact h
end

end Go.Proofs.Ytmccednfaemiaaa
