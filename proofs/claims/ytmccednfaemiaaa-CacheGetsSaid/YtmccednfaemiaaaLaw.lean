/-
  For any law (a function that returns one bool, names no variable, and is to return true with its arguments as they were): whatever its parameters are, its row's last step follows from two facts: it returned true, and all memory that was there before the call is as it was.
-/
import Derived.ProofKit
import Derived.Below
import Derived.WideKeyArgs
import Derived.OpenShut
import Derived.Lib.SmallJoins
namespace Go.Proofs.Ytmccednfaemiaaa
open Go.ChangeShapes Go.WideShapes Go.RowKit

section
variable {H : Type} {enc : TypeId × Value → H} {P : Program}

/-- Arguments that were read before the call read alike behind it, where all old memory is as it was. -/
theorem args_stay (hl : laidOutB P = true) {W W' : World} {sp : Nat → Bool} (hb : Below W.heap.size W W') :
    ∀ {ts : List TypeId} {vs : List Value} {ds : List (DataW H)} {ps : List MemPlace}, (∀ t ∈ ts, P.readableRec t = true ∧ t < P.types.size) →
      DataW.TrodAll enc P W 0 (fun _ => true) true ts vs ds ps → (∀ x ∈ ps, x.block < W.heap.size) → (∀ x ∈ ps, sp x.block = true) →
      DataW.TrodAll enc P W' 0 sp true ts vs ds ps
  | [], _, _, _, _, h, _, _ => by
    obtain ⟨rfl, rfl, rfl⟩ := trodAll_nil h
    exact trodAll_mk0
  | t :: ts, _, _, _, ht, h, hlt, hsp => by
    obtain ⟨v, vs1, d, ds1, a, b, rfl, rfl, rfl, h1, h2⟩ := trodAll_cons h
    have htt := ht t (List.mem_cons_self ..)
    refine ⟨a, b, ?_, ?_, rfl⟩
    · exact WideElems.Trod_stays hl htt.1 htt.2 h1 (fun x hx => hb.same (hlt x (List.mem_append_left _ hx))) (fun x hx => hsp x (List.mem_append_left _ hx))
    · exact args_stay hl hb (fun t' h' => ht t' (List.mem_cons_of_mem _ h')) h2 (fun x hx => hlt x (List.mem_append_right _ hx)) (fun x hx => hsp x (List.mem_append_right _ hx))

/-- The last step of a law's row. -/
theorem law_post (hl : laidOutB P = true) {f : Func} {s : ChangeSpec} {W W' : World} {args : Array Value} {ds gs : List (DataW H)} {before : List MemPlace} {tb : TypeId}
    (hW : DataW.Whole enc P f.params.toList s.vars false W args.toList ds gs before)
    (hvars : s.vars = []) (hfn : s.fn H (ds ++ gs) = { results := [.lit (.bool true)], args := ds })
    (hres : f.resultTypes = #[tb]) (htb : P.underlying tb = some .bool)
    (hts : ∀ t ∈ f.params.toList, P.readableRec t = true ∧ t < P.types.size) (hb : Below W.heap.size W W') :
    s.post enc P f false true false false W args (.bool true) W' := by
  have hlt : ∀ x ∈ before, x.block < W.heap.size := fun x hx => hW.lt x hx
  have hW0 := hW
  obtain ⟨p, q, hA, hV, hpq, _, _⟩ := hW0
  rw [hvars] at hV
  obtain ⟨rfl, rfl⟩ := trodVars_none hV
  obtain rfl : before = p := by rw [hpq, List.append_nil]
  refine ⟨ds, [], before, [], before, [], hW, ?_, ?_, ?_, ?_, fun h => by cases h⟩
  · rw [hfn, hres]
    exact trodAll_mk1 (shut_bool htb _)
  · rw [hfn]
    exact args_stay hl hb hts hA hlt (fun x hx => by simpa using hlt x hx)
  · rw [hvars, hfn]
    rfl
  · exact World.keptBut_mono (fun x hx => hx.elim) (hb.frame (fun _ => False))

/-- The cells of a stamp: two whole numbers, each within an int. -/
theorem stamp_cells {w : World} {base : Nat} {spare : Nat → Bool} {held : Bool} {fuel : Nat} {t ti : TypeId} {f0 f1 : Field} {cs : List Value} {x : DataW H × List MemPlace}
    (hs : P.underlying t = some (.struct #[f0, f1])) (hone : Deep.oneCellFields P #[f0, f1] = true) (hC : P.cellsOf t = 2) (hi0 : f0.type = ti) (hi1 : f1.type = ti) (hi : P.underlying ti = some (.int .i64))
    (h : DataW.trod enc P w base spare held fuel t cs = some x) :
    ∃ c n : Int, cs = [.int .i64 c, .int .i64 n] ∧ x.2 = [] ∧ -9223372036854775808 ≤ c ∧ c ≤ 9223372036854775807 ∧ -9223372036854775808 ≤ n ∧ n ≤ 9223372036854775807 := by
  obtain ⟨y0, y1, m, rfl, hl, hy0, hy1⟩ := trod_struct2 hs h
  obtain ⟨o0, k0⟩ := Deep.hone_of hone 0 f0 rfl
  obtain ⟨o1, k1⟩ := Deep.hone_of hone 1 f1 rfl
  rw [hC] at hl
  obtain ⟨a0, a1, rfl⟩ : ∃ a0 a1, cs = [a0, a1] := by
    match cs, hl with
    | [a0, a1], _ => exact ⟨a0, a1, rfl⟩
  rw [o0, k0, hi0] at hy0
  rw [o1, k1, hi1] at hy1
  obtain ⟨a, e0, rfl, wa⟩ := DataW.trod_int hi hy0
  obtain ⟨b, e1, rfl, wb⟩ := DataW.trod_int hi hy1
  simp at e0 e1
  subst e0 e1
  exact ⟨a, b, rfl, rfl, (bounds_i64 wa).1, (bounds_i64 wa).2, (bounds_i64 wb).1, (bounds_i64 wb).2⟩

/-- A stamp by value: two whole numbers, each within an int. -/
theorem open_stamp {w : World} {base b0 : Nat} {spare : Nat → Bool} {held : Bool} {r : Reach} {t ti : TypeId} {f0 f1 : Field} {v : Value} {d : DataW H} {p : List MemPlace}
    (hs : P.underlying t = some (.struct #[f0, f1])) (hone : Deep.oneCellFields P #[f0, f1] = true) (hC : P.cellsOf t = 2) (hi0 : f0.type = ti) (hi1 : f1.type = ti) (hi : P.underlying ti = some (.int .i64))
    (hv : Value.okWide P w r b0 t v) (h : DataW.Trod enc P w base spare held t v d p) :
    ∃ c n : Int, v = .agg #[.int .i64 c, .int .i64 n] ∧ -9223372036854775808 ≤ c ∧ c ≤ 9223372036854775807 ∧ -9223372036854775808 ≤ n ∧ n ≤ 9223372036854775807 := by
  obtain ⟨cs, rfl, _⟩ := okWide_struct hs hv
  obtain ⟨fuel, hf⟩ := h
  obtain ⟨c, n, hcs, _, hb⟩ := stamp_cells hs hone hC hi0 hi1 hi hf
  refine ⟨c, n, ?_, hb⟩
  have : cs = #[.int .i64 c, .int .i64 n] := by
    apply Array.toList_inj.1
    simpa [Value.cells] using hcs
  rw [this]

/-- Three stamps in an array, by value. -/
theorem open_stamps3 {w : World} {base b0 : Nat} {spare : Nat → Bool} {held : Bool} {r : Reach} {ta t ti : TypeId} {f0 f1 : Field} {v : Value} {d : DataW H} {p : List MemPlace}
    (ha : P.underlying ta = some (.array 3 t)) (hA : P.cellsOf ta = 6)
    (hs : P.underlying t = some (.struct #[f0, f1])) (hone : Deep.oneCellFields P #[f0, f1] = true) (hC : P.cellsOf t = 2) (hi0 : f0.type = ti) (hi1 : f1.type = ti) (hi : P.underlying ti = some (.int .i64))
    (hv : Value.okWide P w r b0 ta v) (h : DataW.Trod enc P w base spare held ta v d p) :
    ∃ c0 n0 c1 n1 c2 n2 : Int, v = .agg #[.int .i64 c0, .int .i64 n0, .int .i64 c1, .int .i64 n1, .int .i64 c2, .int .i64 n2] ∧ c0 ≤ 9223372036854775807 := by
  simp only [Value.okWide, ha] at hv
  obtain ⟨cs, rfl, _⟩ := hv
  obtain ⟨fuel, hf⟩ := h
  obtain ⟨xs, m, _, _, hl, hxl, hx⟩ := DataW.trod_array ha hf
  have hcs : (Value.agg cs).cells.toList = cs.toList := rfl
  rw [hcs] at hl hx
  rw [hA] at hl
  rw [hC] at hx
  obtain ⟨l0, l1, l2, l3, l4, l5, hcl⟩ : ∃ l0 l1 l2 l3 l4 l5, cs.toList = [l0, l1, l2, l3, l4, l5] := by
    match cs.toList, hl with
    | [l0, l1, l2, l3, l4, l5], _ => exact ⟨l0, l1, l2, l3, l4, l5, rfl⟩
  rw [hcl] at hx
  obtain ⟨x0, x1, x2, rfl⟩ : ∃ x0 x1 x2, xs = [x0, x1, x2] := by
    match xs, hxl with
    | [x0, x1, x2], _ => exact ⟨x0, x1, x2, rfl⟩
  have e0 := hx 0 (by omega)
  have e1 := hx 1 (by omega)
  have e2 := hx 2 (by omega)
  simp at e0 e1 e2
  obtain ⟨c0, n0, h0, _, _, b0, _, _⟩ := stamp_cells hs hone hC hi0 hi1 hi e0
  obtain ⟨c1, n1, h1, _⟩ := stamp_cells hs hone hC hi0 hi1 hi e1
  obtain ⟨c2, n2, h2, _⟩ := stamp_cells hs hone hC hi0 hi1 hi e2
  simp at h0 h1 h2
  obtain ⟨rfl, rfl⟩ := h0
  obtain ⟨rfl, rfl⟩ := h1
  obtain ⟨rfl, rfl⟩ := h2
  refine ⟨c0, n0, c1, n1, c2, n2, ?_, b0⟩
  rw [← hcl]
end

end Go.Proofs.Ytmccednfaemiaaa
