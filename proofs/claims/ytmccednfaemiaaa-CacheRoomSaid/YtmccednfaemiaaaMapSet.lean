/-
  A map whose elements hold nothing, asked at any integer, one beyond its kind's range too; a map through later memory. Nothing of the program is imported.
-/
import Derived.Maps.OwnSet
import Derived.Test.YtmccednfaemiaaaStampPlain
namespace Go.Proofs.Ytmccednfaemiaaa
open Go.RowKit Go.Maps

theorem map_later {H : Type} {P : Program} {k : TypeId} {R : Value → Option (DataW H × List MemPlace)} {w w' : World} {b n : Nat} {D : DataW H} (h : w.ownsMap P k R b n D) (hb : Below w.heap.size w w') : w'.ownsMap P k R b n D := by
  have hlt := h.lt
  obtain ⟨es, clock, hh, F, hs, hD⟩ := h
  exact ⟨es, clock, (hb.block b hlt).trans hh, F, hs, hD⟩

/-- 'm[k]' with 'ok', at a map of elements that hold nothing, at any integer. -/
theorem look_set {H : Type} {P : Program} {w : World} {b n : Nat} {D : DataW H} {t k e : TypeId} {q : IntKind} (h : w.ownsMap P k unitElem b n D) (ht : P.underlying t = some (.map k e)) (hk : P.underlying k = some (.int q))
    (hz : (zeroValue e).run P w = .ok (.agg #[]) w) (a : Int) :
    ∃ r, (Instr.lookup t (.map (some b)) (.int q a) true).run P w = .ok (.tuple #[.agg #[], .bool r]) w ∧ ((Lit.int q a).wf = true → r = Maps.has D (.int q a)) := by
  by_cases hw : (Lit.int q a).wf = true
  · obtain ⟨v, ps, hrun, hv⟩ := h.look_ok (int_keyed hk) ht hz unitElem_mk (keyOf_int_mk hk hw)
    obtain ⟨rfl, _⟩ := unitElem_inv hv
    exact ⟨_, hrun, fun _ => rfl⟩
  · obtain ⟨es, clock, hb, F, _, rfl⟩ := h
    have hkey : MapKept.IsKey (.int q) (.int q a) := by simp [MapKept.IsKey]
    have hks : ∀ x ∈ es.toList, MapKept.IsKey (.int q) x.key := fun x hx => by
      obtain ⟨l, hl⟩ := F.keys x hx
      have hl2 : mapKey P k x.key = some l := by simpa [keyOf, hk] using hl
      obtain ⟨d', hd', h1, _⟩ := WideShapes.mapKey_isKey hl2
      rw [hk] at hd'
      cases hd'
      exact h1
    rcases MapKept.findNow_spec hkey es.toList 0 hks with ⟨h1, _⟩ | ⟨j, e0, h1, h2, _⟩
    · exact ⟨false, by simp [Instr.lookup, run_underlying ht, MapKept.run_getObj_map hb, MapKept.run_checkKey hk hkey, MapKept.run_findKey hk h1, hz, Result.andThen], fun hc => absurd hc hw⟩
    · have hm0 : e0 ∈ es.toList := List.mem_of_getElem? h2
      obtain ⟨y0, hy0⟩ := F.reads e0 hm0
      obtain ⟨zv, hzv, _⟩ := WideElems.rd_val hy0
      obtain ⟨hv, _⟩ := unitElem_inv hzv
      rw [Nat.zero_add] at h1
      exact ⟨true, by simp [Instr.lookup, run_underlying ht, MapKept.run_getObj_map hb, MapKept.run_checkKey hk hkey, MapKept.run_findKey hk h1, hv, Result.andThen], fun hc => absurd hc hw⟩

/-- Different numbers below m: at most m of them. -/
theorem few_below : ∀ (m : Nat) (l : List Int), l.Pairwise (· ≠ ·) → (∀ x ∈ l, 0 ≤ x ∧ x < (m : Int)) → l.length ≤ m
  | 0, l, _, hb => by
    cases l with
    | nil => exact Nat.le_refl _
    | cons x r => have := hb x List.mem_cons_self; omega
  | m + 1, l, hp, hb => by
    have h1 := few_below m (l.filter fun x => !decide (x = (m : Int))) (hp.filter _) (fun x hx => by
      obtain ⟨h2, h3⟩ := List.mem_filter.1 hx
      have h4 := hb x h2
      simp only [Bool.not_eq_true', decide_eq_false_iff_not] at h3
      omega)
    have h5 : ∀ l : List Int, l.Pairwise (· ≠ ·) → l.length ≤ (l.filter fun x => !decide (x = (m : Int))).length + 1 := by
      intro l
      induction l with
      | nil => intro _; simp
      | cons x r ih =>
        intro hp
        rw [List.pairwise_cons] at hp
        by_cases hx : x = (m : Int)
        · have h6 : r.filter (fun x => !decide (x = (m : Int))) = r := List.filter_eq_self.2 (fun y hy => by
            have := hp.1 y hy
            simp only [Bool.not_eq_true', decide_eq_false_iff_not]
            omega)
          rw [List.filter_cons, if_neg (by simp [hx]), h6]
          exact Nat.le_refl _
        · have h7 := ih hp.2
          rw [List.filter_cons, if_pos (by simp [hx])]
          simp only [List.length_cons]
          omega
    have h8 := h5 l hp
    omega
end Go.Proofs.Ytmccednfaemiaaa
