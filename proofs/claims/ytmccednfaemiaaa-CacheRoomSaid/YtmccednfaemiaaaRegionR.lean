/-
  A region that draws its order, within a round of a loop over a function: each operation walked as anywhere. Nothing of the program is imported.
-/
import Derived.Test.YtmccednfaemiaaaRegion
import Derived.OrdersIn
import Derived.RangeFuncCalls
import Derived.TacticsIn
namespace Go.Proofs.Ytmccednfaemiaaa
open Go.RowKit

theorem rows_round {P : Program} {row : String} {args : Array Value} {w : World} {R : Value → World → Prop} (l n : Nat) (h : _root_.Go.Rows P row args w R) : RowsIn (Fence.wide.inRound l) n P row args w R :=
  fun c cs _ => let ⟨v, w', r, s⟩ := h c cs; ⟨v, w', r, stepsIn_wide.2 s⟩
section
variable {P : Program} {ops : Array Oper} {md : Region.Mode} {Q : Exit → Act → World → Prop} {l n : Nat}
theorem wpOp_round {i : Nat} {K : Act → World → Prop} {a : Act} {w : World} (hd : ∀ o c, ops[i]? = some o → o.op ≠ .defer c) (hq : ¬ LetsOut Q) (h : wpOp P ops Q i K a w) : wpOpIn (Fence.wide.inRound l) n P ops Q i K a w := by
  unfold wpOp at h
  unfold wpOpIn
  cases ho : ops[i]? with
  | none =>
    rw [ho] at h
    exact h
  | some o =>
    rw [ho] at h
    simp only at h ⊢
    split
    · rename_i hw
      rw [if_pos hw] at h
      have h := h.resolve_right (fun h => hq h.2)
      refine ⟨fun _ _ => trivial, ?_⟩
      rw [show (Fence.wide.inRound l).round = some l from rfl, Oper.semAt_some l _ _ (fun c => hd o c ho)]
      unfold Oper.wp at h
      generalize (execOp a.eval o).run P w = r at *
      cases r with
      | ok x w' =>
        cases x <;> simp only [Oper.upon, Oper.uponIn] at h ⊢ <;>
          first
            | exact h
            | exact ⟨fun h0 => by simp [Fence.wide, Fence.inRound] at h0, CallsIn.inRound l (callsIn_wide.2 (h.mono (fun e w'' he => by cases e <;> exact he)))⟩
            | exact ⟨fun h0 => by simp [Fence.wide, Fence.inRound] at h0, rows_round l _ h⟩
      | halt x w' => cases x <;> simp only [Oper.upon, Oper.uponIn] at h ⊢ <;> exact h
    · rename_i hw
      rw [if_neg hw] at h
      exact ⟨fun _ _ => trivial, h⟩
theorem wpAny_round (hd : ∀ (i : Nat) o c, ops[i]? = some o → o.op ≠ .defer c) (hq : ¬ LetsOut Q) (f : Nat) (listed : Array Bool) (a : Act) (w : World) (h : wpAny P md ops Q f listed a w) : wpAnyIn (Fence.wide.inRound l) n P md ops Q f listed a w := by
  induction f generalizing listed a w with
  | zero => exact h
  | succ f ih => exact ⟨h.1, fun i hi => wpOpIn_mono (fun a' w' h' => ih _ a' w' h') (wpOp_round (hd i) hq (h.2 i hi))⟩
/-- An operation that isn't wanted. -/
theorem wpOp_skip {i : Nat} {o : Oper} {K : Act → World → Prop} {a : Act} {w : World} (ho : ops[i]? = some o) (hw : Region.wanted o (yielded ops a.tmps) = false) (h : K (a.put o.dst undef) w) : wpOp P ops Q i K a w := by
  unfold wpOp
  rw [ho]
  simp only
  rw [if_neg (by rw [hw]; exact Bool.false_ne_true)]
  exact h
/-- No operation is put off. -/
def noDefer (ops : Array Oper) : Bool := ops.toList.all fun o => match o.op with | .defer _ => false | _ => true
theorem noDefer_at (h : noDefer ops = true) (i : Nat) (o : Oper) c (ho : ops[i]? = some o) : o.op ≠ .defer c := by
  intro e
  have h1 := List.all_eq_true.1 h o (Array.mem_toList_iff.2 (Array.mem_of_getElem? ho))
  rw [e] at h1
  cases h1

/-- **A region that draws its order, in a round, whose operations make memory.** -/
theorem wpIn_region_facts2 {id : Nat} {L : List Oper} {w : World} (m : Nat) (hm : P.follows .mixedOrders = true) (hB : factsB .any L.toArray m = true) (hd : noDefer L.toArray = true) (hq : ¬ LetsOut Q) (T : (Nat → Value) → Act) (v0 : Nat → Value) (Ψ : Nat → Value → World → Prop) (R : Nat → Nat → Value → Value → Prop) (Rel : World → World → Prop) (trans : ∀ {w1 w2 w3}, Rel w1 w2 → Rel w2 w3 → Rel w1 w3) (hself : ∀ w, Rel w w) (hdrew : Rel w w.drew)
    (stab : ∀ i x w w', Ψ i x w → Rel w w' → Ψ i x w')
    (step : ∀ i, i < m → ∀ v w', Rel w w' → (∀ j ∈ deps .any L.toArray i, Ψ j (v j) w') → wpOp P L.toArray Q i (fun a' w'' => ∃ x, a' = T (upd v i x) ∧ Rel w' w'' ∧ Ψ i x w'' ∧ ∀ j y, j ≠ i → Ψ j y w' → R i j x y ∧ R j i y x) (T v) w')
    (done : ∀ v w', Rel w w' → (∀ i, i < m → Ψ i (v i) w') → (∀ i j, i < m → j < m → i ≠ j → R i j (v i) (v j)) → wpList P L.toArray Q (L.drop m) (T v) w') :
    (Code.region id L.toArray true).wpIn (Fence.wide.inRound l) n P Q (T v0) w := by
  refine wpIn_region_any hm (wpAny_round (noDefer_at hd) hq _ _ _ _ ?_)
  have hn : m < L.toArray.size := by
    simp only [factsB, Bool.and_eq_true, decide_eq_true_eq] at hB
    exact hB.1.1.1.1
  have hw : ∀ w', Rel { w with drawn := w.drawn + 1 } w' → Rel w w' := fun w' h => trans hdrew h
  have h := wpAny_facts hB T Ψ R Rel trans { w with drawn := w.drawn + 1 } stab (fun i hi v w' hb hd => step i hi v w' (hw w' hb) hd) (fun v w' hb hf hr => done v w' (hw w' hb) hf hr)
    m (Array.replicate L.toArray.size false) v0 { w with drawn := w.drawn + 1 }
    ⟨by simp, fun j oj hj hl => (by rw [getD_replicate_false] at hl; cases hl), fun t ht ht' => (by rw [Array.getD_eq_getD_getElem?, Array.getElem?_replicate, if_pos ht']; rfl)⟩ (cntTo_none _ m (by omega)) (hself _) (fun i hi hl => by
      rw [Array.getD_eq_getD_getElem?, Array.getElem?_replicate, if_pos (by omega)] at hl
      cases hl) (fun i j hi hj _ hl _ => by
      rw [Array.getD_eq_getD_getElem?, Array.getElem?_replicate, if_pos (by omega)] at hl
      cases hl)
  rw [show m + (L.toArray.size - m) = L.toArray.size from by omega] at h
  exact h
/-- **A region that draws its order, in a round, whose operations make memory.** -/
theorem wpIn_region_facts {id : Nat} {L : List Oper} {w : World} (m : Nat) (hm : P.follows .mixedOrders = true) (hB : factsB .any L.toArray m = true) (hd : noDefer L.toArray = true) (hq : ¬ LetsOut Q) (T : (Nat → Value) → Act) (v0 : Nat → Value) (Ψ : Nat → Value → World → Prop) (Rel : World → World → Prop) (trans : ∀ {w1 w2 w3}, Rel w1 w2 → Rel w2 w3 → Rel w1 w3) (hself : ∀ w, Rel w w) (hdrew : Rel w w.drew)
    (stab : ∀ i x w w', Ψ i x w → Rel w w' → Ψ i x w')
    (step : ∀ i, i < m → ∀ v w', Rel w w' → (∀ j ∈ deps .any L.toArray i, Ψ j (v j) w') → wpOp P L.toArray Q i (fun a' w'' => ∃ x, a' = T (upd v i x) ∧ Rel w' w'' ∧ Ψ i x w'') (T v) w')
    (done : ∀ v w', Rel w w' → (∀ i, i < m → Ψ i (v i) w') → wpList P L.toArray Q (L.drop m) (T v) w') :
    (Code.region id L.toArray true).wpIn (Fence.wide.inRound l) n P Q (T v0) w :=
  wpIn_region_facts2 m hm hB hd hq T v0 Ψ (fun _ _ _ _ => True) Rel trans hself hdrew stab
    (fun i hi v w' hb hd => wpOp_mono (fun _ _ ⟨x, h1, h2, h3⟩ => ⟨x, h1, h2, h3, fun _ _ _ _ => ⟨trivial, trivial⟩⟩) (step i hi v w' hb hd))
    (fun v w' hb hf _ => done v w' hb hf)
end

end Go.Proofs.Ytmccednfaemiaaa
