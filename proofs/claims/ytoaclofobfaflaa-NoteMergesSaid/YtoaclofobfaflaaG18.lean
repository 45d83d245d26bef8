/-
  Plain mathematics of notes: what a merged note covers and tells. Nothing of the program is said.
  For any law (a function that returns one bool, names no variable, and is to return true with its arguments as they were): whatever its parameters are, its row's last step follows from two facts: it returned true, and all memory that was there before the call is as it was.
  A slice argument, opened: whatever its elements are, if each element's cells are known by a way to write it out, the slice reads as a list of such elements. With it slices of stamps.
  A slice of slices of stamps as an argument, opened.
-/
import Derived.Test.YtoaclofobfaflaaG17
import Derived.Test.YtoaclofobfaflaaG16
import Derived.ProofKit
import Derived.Below
import Derived.WideKeyArgs
import Derived.OpenShut
import Derived.Lib.SmallJoins
import Derived.Test.YtoaclofobfaflaaG01
import Derived.Deep.Slices
import Derived.Test.YtoaclofobfaflaaG03
import Derived.SizedLaws
namespace Go.Proofs.Ytoaclofobfaflaa
namespace Nt
theorem merge_yes {a b : Note} (ha : fmd a = true) (hb : fmd b = true) : merge a b = (⟨Ve.ofL (thrifty a b), Ve.joinL [a.e, b.e], Sp.joinS [a.b, b.b], mergedTo a b (Sp.joinS [a.b, b.b]) 256⟩, 0) := by
  unfold merge
  rw [if_pos ⟨ha, hb⟩]
theorem merge_fits {a b : Note} (ha : fmd a = true) (hb : fmd b = true) (l : List (Int × Int)) (h1 : Ve.cov (Ve.cnt l) (Ve.cnt a.s) = true) (h2 : Ve.cov (Ve.cnt (Ve.joinL [l, a.e])) (Ve.cnt b.s) = true) : Ve.cov (Ve.cnt l) (Ve.cnt (merge a b).1.s) = true := by
  rw [merge_yes ha hb, Ve.cov_iff]
  intro i hi
  show Ve.cnt (Ve.ofL (thrifty a b)) i ≤ Ve.cnt l i
  rw [Ve.cnt_ofL _ (fun j => by unfold thrifty; split <;> exact Ve.cnt_nonneg _ _) i hi]
  have q1 := (Ve.cov_iff _ _).1 h1 i hi
  have q2 := (Ve.cov_iff _ _).1 h2 i hi
  rw [Ve.cnt_joinL _ i hi, Ve.jn_two] at q2
  unfold thrifty
  split
  · split at q2 <;> omega
  · exact q1
theorem merge_news_a {a b : Note} (ha : fmd a = true) (hb : fmd b = true) : Ve.cov (Ve.cnt (merge a b).1.e) (Ve.cnt a.e) = true := by
  rw [merge_yes ha hb]
  exact Ve.cov_join_left a.e b.e
theorem merge_news_b {a b : Note} (ha : fmd a = true) (hb : fmd b = true) : Ve.cov (Ve.cnt (merge a b).1.e) (Ve.cnt b.e) = true := by
  rw [merge_yes ha hb]
  exact Ve.cov_join_right a.e b.e
theorem merge_b {a b : Note} (ha : fmd a = true) (hb : fmd b = true) (o : Nat) (ho : o < 256) : Sp.inL (merge a b).1.b o = (Sp.inL a.b o || Sp.inL b.b o) := by
  rw [merge_yes ha hb]
  show Sp.inL (Sp.ofL (Sp.anyTo [a.b, b.b] 2)) o = _
  rw [Sp.inL_ofL _ o ho]
  show ((false || Sp.inL a.b o) || Sp.inL b.b o) = _
  rw [Bool.false_or]
theorem merge_blur_a {a b : Note} (ha : fmd a = true) (hb : fmd b = true) : Sp.cov (Sp.inL (merge a b).1.b) (Sp.inL a.b) = true := (Sp.cov_iff _ _).2 fun o ho h => by rw [merge_b ha hb o ho, h, Bool.true_or]
theorem merge_blur_b {a b : Note} (ha : fmd a = true) (hb : fmd b = true) : Sp.cov (Sp.inL (merge a b).1.b) (Sp.inL b.b) = true := (Sp.cov_iff _ _).2 fun o ho h => by rw [merge_b ha hb o ho, h, Bool.or_true]
theorem merge_fmd {a b : Note} (ha : fmd a = true) (hb : fmd b = true) : fmd (merge a b).1 = true := by
  rcases merge_form a b with h | h
  · exact h.2
  · rw [merge_yes ha hb] at h; cases h

/-- The merged writes' one of an object. -/
theorem merged_find (a b : Note) (bl : List (Int × Int)) (k : Nat) : ∀ n, at_ (mergedTo a b bl n) (k : Int) = if k < n ∧ (pick a b k).2 = true ∧ Sp.inL bl k = false then ((pick a b k).1, true) else (zeroW, false)
  | 0 => by
    rw [if_neg (by omega)]
    rfl
  | n + 1 => by
    have ih := merged_find a b bl k n
    obtain ⟨⟨p, has⟩, hp⟩ : ∃ r, pick a b n = r := ⟨_, rfl⟩
    by_cases hc : has = true ∧ Sp.inL bl n = false
    · obtain ⟨rfl, hi⟩ := hc
      rw [merged_yes hp hi]
      have hpo := (pick_mem hp).2
      unfold at_ at ih ⊢
      rw [List.find?_append]
      by_cases hkn : k = n
      · subst hkn
        rw [if_neg (by omega)] at ih
        have hnone : (mergedTo a b bl k).find? (fun x => decide (x.2.2.1 = (k : Int))) = none := by
          cases hf : (mergedTo a b bl k).find? (fun x => decide (x.2.2.1 = (k : Int))) with
          | none => rfl
          | some y =>
            have h1 := ((merged_in (a := a) (b := b) (bl := bl) k).1 y (List.mem_of_find?_eq_some hf)).2.2.2
            have h2 : y.2.2.1 = (k : Int) := by simpa using List.find?_some hf
            omega
        rw [hnone, hp, if_pos ⟨by omega, rfl, hi⟩]
        simp [hpo]
      · have hne : ¬ (p.2.2.1 = (k : Int)) := by omega
        have hsing : [p].find? (fun x => decide (x.2.2.1 = (k : Int))) = none := by simp [hne]
        rw [hsing, Option.or_none, ih]
        by_cases hlt : k < n
        · by_cases hq : (pick a b k).2 = true ∧ Sp.inL bl k = false
          · rw [if_pos ⟨hlt, hq⟩, if_pos ⟨by omega, hq⟩]
          · rw [if_neg (fun h => hq h.2), if_neg (fun h => hq h.2)]
        · rw [if_neg (fun h => hlt h.1), if_neg (fun h => by omega)]
    · have e : mergedTo a b bl (n + 1) = mergedTo a b bl n := by
        show mergedTo a b bl n ++ (if (pick a b n).2 = true ∧ Sp.inL bl n = false then [(pick a b n).1] else []) = _
        rw [hp, if_neg hc, List.append_nil]
      rw [e, ih]
      by_cases hkn : k = n
      · subst hkn
        rw [if_neg (by omega), hp, if_neg (fun h => hc h.2)]
      · by_cases hlt : k < n
        · by_cases hq : (pick a b k).2 = true ∧ Sp.inL bl k = false
          · rw [if_pos ⟨hlt, hq⟩, if_pos ⟨by omega, hq⟩]
          · rw [if_neg (fun h => hq h.2), if_neg (fun h => hq h.2)]
        · rw [if_neg (fun h => hlt h.1), if_neg (fun h => by omega)]
/-- Newer by the order: the count is no less. -/
theorem cmp_lt {c n d m : Int} (h : St.cmpS c n d m < 0) : c < d ∨ (c = d ∧ n < m) := by
  unfold St.cmpS St.cmpI at h
  split at h
  · omega
  · split at h
    · omega
    · split at h
      · omega
      · split at h <;> omega
theorem cmp_ge {c n d m : Int} (h : ¬ St.cmpS c n d m < 0) : d ≤ c := by
  rcases Int.lt_or_le c d with h1 | h1
  · exfalso
    apply h
    unfold St.cmpS
    rw [if_pos h1]
    omega
  · exact h1
/-- What the merged note and both tell of one object: the ways there are. -/
theorem merged_told {a b : Note} (ha : fmd a = true) (hb : fmd b = true) (k : Nat) (hk : k < 256) :
    (∃ v x : Wr, v.2.2.1 = (k : Int) ∧ x.2.2.1 = (k : Int) ∧ told a (k : Int) = (v, true, 0) ∧ told b (k : Int) = (x, true, 0) ∧ ((told (merge a b).1 (k : Int) = (v, true, 0) ∧ x.1 ≤ v.1) ∨ (told (merge a b).1 (k : Int) = (x, true, 0) ∧ (v.1 < x.1 ∨ (v.1 = x.1 ∧ v.2.1 < x.2.1))))) ∨
    (∃ v : Wr, told a (k : Int) = (v, true, 0) ∧ ((told b (k : Int) = (zeroW, true, 8) ∧ told (merge a b).1 (k : Int) = (v, true, 0)) ∨ (told b (k : Int) = (zeroW, false, 8) ∧ told (merge a b).1 (k : Int) = (zeroW, false, 8)))) ∨
    (∃ x : Wr, told b (k : Int) = (x, true, 0) ∧ ((told a (k : Int) = (zeroW, true, 8) ∧ told (merge a b).1 (k : Int) = (x, true, 0)) ∨ (told a (k : Int) = (zeroW, false, 8) ∧ told (merge a b).1 (k : Int) = (zeroW, false, 8)))) ∨
    (∃ s t : Bool, told a (k : Int) = (zeroW, s, 8) ∧ told b (k : Int) = (zeroW, t, 8) ∧ told (merge a b).1 (k : Int) = (zeroW, s && t, 8)) := by
  have hx := merge_fmd ha hb
  have hgd : ∀ {n : Note} {y : Wr} {o : Int}, fmd n = true → at_ n.ws o = (y, true) → inOf n.b o = false := fun {n y o} hn hy => by
    obtain ⟨m1, m2⟩ := at_mem hy
    have := ((fmd_parts hn).2 y m1).2.2
    rwa [m2] at this
  have hio : ∀ l : List (Int × Int), inOf l (k : Int) = Sp.inL l k := fun l => by
    unfold inOf
    rw [decide_eq_true (by omega)]
    rfl
  have ht : ∀ n : Note, fmd n = true → told n (k : Int) = if (at_ n.ws (k : Int)).2 = true then ((at_ n.ws (k : Int)).1, true, 0) else (zeroW, !inOf n.b (k : Int), 8) := fun n hn => by
    unfold told
    rw [if_pos ⟨hn, by omega, by omega⟩]
  have hfx := merged_find a b (Sp.joinS [a.b, b.b]) k 256
  have hbl := merge_b ha hb k hk
  have hws : (merge a b).1.ws = mergedTo a b (Sp.joinS [a.b, b.b]) 256 := by rw [merge_yes ha hb]
  have hbb : (merge a b).1.b = Sp.joinS [a.b, b.b] := by rw [merge_yes ha hb]
  rw [hbb] at hbl
  rw [← hws] at hfx
  rw [ht a ha, ht b hb, ht _ hx, hfx, hbb, hio, hio, hio, hbl]
  have hpk : pick a b k = (if (at_ b.ws (k : Int)).2 = true ∧ ((at_ a.ws (k : Int)).2 = false ∨ St.cmpS (at_ a.ws (k : Int)).1.1 (at_ a.ws (k : Int)).1.2.1 (at_ b.ws (k : Int)).1.1 (at_ b.ws (k : Int)).1.2.1 < 0) then (at_ b.ws (k : Int)).1 else (at_ a.ws (k : Int)).1, (at_ a.ws (k : Int)).2 || (at_ b.ws (k : Int)).2) := rfl
  rw [hpk]
  obtain ⟨⟨v, ok⟩, hv⟩ : ∃ r, at_ a.ws (k : Int) = r := ⟨_, rfl⟩
  obtain ⟨⟨x, iss⟩, hxx⟩ : ∃ r, at_ b.ws (k : Int) = r := ⟨_, rfl⟩
  rw [hv, hxx]
  simp only [hk, true_and]
  cases ok with
  | true =>
    have hA : Sp.inL a.b k = false := by rw [← hio]; exact hgd ha hv
    have hvo := (at_mem hv).2
    cases iss with
    | true =>
      have hB : Sp.inL b.b k = false := by rw [← hio]; exact hgd hb hxx
      have hxo := (at_mem hxx).2
      refine .inl ⟨v, x, hvo, hxo, by simp, by simp, ?_⟩
      by_cases hc : St.cmpS v.1 v.2.1 x.1 x.2.1 < 0
      · exact .inr ⟨by simp [hA, hB, hc], cmp_lt hc⟩
      · exact .inl ⟨by simp [hA, hB, hc], cmp_ge hc⟩
    | false =>
      refine .inr (.inl ⟨v, by simp, ?_⟩)
      cases hB : Sp.inL b.b k with
      | false => exact .inl ⟨by simp, by simp [hA]⟩
      | true => exact .inr ⟨by simp, by simp⟩
  | false =>
    cases iss with
    | true =>
      have hB : Sp.inL b.b k = false := by rw [← hio]; exact hgd hb hxx
      refine .inr (.inr (.inl ⟨x, by simp, ?_⟩))
      cases hA : Sp.inL a.b k with
      | false => exact .inl ⟨by simp, by simp [hB]⟩
      | true => exact .inr ⟨by simp, by simp⟩
    | false =>
      refine .inr (.inr (.inr ⟨!Sp.inL a.b k, !Sp.inL b.b k, by simp, by simp, by simp⟩))
end Nt
end Go.Proofs.Ytoaclofobfaflaa
namespace Go.Proofs.Ytoaclofobfaflaa
open Go.ChangeShapes Go.WideShapes Go.RowKit

section
variable {H : Type} {enc : TypeId × Value → H} {P : Program}

/-- Arguments that were read before the call read alike behind it, where all old memory is as it was. -/
theorem args_stay (hl : laidOutB P = true) {W W' : World} {sp : Nat → Bool} (hb : Below W.heap.size W W') :
    ∀ {ts : List TypeId} {vs : List Value} {ds : List (DataW H)} {ps : List MemPlace}, (∀ t ∈ ts, P.readableRec t = true ∧ t < P.types.size) →
      DataW.TrodAll enc P W 0 (fun _ => true) true ts vs ds ps → (∀ x ∈ ps, x.block < W.heap.size) → (∀ x ∈ ps, sp x.block = true) →
      DataW.TrodAll enc P W' 0 sp true ts vs ds ps
  | [], _, _, _, _, h, _, _ => by
    obtain ⟨rfl, rfl, rfl⟩ := trodAll_nil h
    exact trodAll_mk0
  | t :: ts, _, _, _, ht, h, hlt, hsp => by
    obtain ⟨v, vs1, d, ds1, a, b, rfl, rfl, rfl, h1, h2⟩ := trodAll_cons h
    have htt := ht t (List.mem_cons_self ..)
    refine ⟨a, b, ?_, ?_, rfl⟩
    · exact WideElems.Trod_stays hl htt.1 htt.2 h1 (fun x hx => hb.same (hlt x (List.mem_append_left _ hx))) (fun x hx => hsp x (List.mem_append_left _ hx))
    · exact args_stay hl hb (fun t' h' => ht t' (List.mem_cons_of_mem _ h')) h2 (fun x hx => hlt x (List.mem_append_right _ hx)) (fun x hx => hsp x (List.mem_append_right _ hx))

/-- The last step of a law's row. -/
theorem law_post (hl : laidOutB P = true) {f : Func} {s : ChangeSpec} {W W' : World} {args : Array Value} {ds gs : List (DataW H)} {before : List MemPlace} {tb : TypeId}
    (hW : DataW.Whole enc P f.params.toList s.vars false W args.toList ds gs before)
    (hvars : s.vars = []) (hfn : s.fn H (ds ++ gs) = { results := [.lit (.bool true)], args := ds })
    (hres : f.resultTypes = #[tb]) (htb : P.underlying tb = some .bool)
    (hts : ∀ t ∈ f.params.toList, P.readableRec t = true ∧ t < P.types.size) (hb : Below W.heap.size W W') :
    s.post enc P f false true false false W args (.bool true) W' := by
  have hlt : ∀ x ∈ before, x.block < W.heap.size := fun x hx => hW.lt x hx
  have hW0 := hW
  obtain ⟨p, q, hA, hV, hpq, _, _⟩ := hW0
  rw [hvars] at hV
  obtain ⟨rfl, rfl⟩ := trodVars_none hV
  obtain rfl : before = p := by rw [hpq, List.append_nil]
  refine ⟨ds, [], before, [], before, [], hW, ?_, ?_, ?_, ?_, fun h => by cases h⟩
  · rw [hfn, hres]
    exact trodAll_mk1 (shut_bool htb _)
  · rw [hfn]
    exact args_stay hl hb hts hA hlt (fun x hx => by simpa using hlt x hx)
  · rw [hvars, hfn]
    rfl
  · exact World.keptBut_mono (fun x hx => hx.elim) (hb.frame (fun _ => False))

/-- The cells of a stamp: two whole numbers, each within an int. -/
theorem stamp_cells {w : World} {base : Nat} {spare : Nat → Bool} {held : Bool} {fuel : Nat} {t ti : TypeId} {f0 f1 : Field} {cs : List Value} {x : DataW H × List MemPlace}
    (hs : P.underlying t = some (.struct #[f0, f1])) (hone : Deep.oneCellFields P #[f0, f1] = true) (hC : P.cellsOf t = 2) (hi0 : f0.type = ti) (hi1 : f1.type = ti) (hi : P.underlying ti = some (.int .i64))
    (h : DataW.trod enc P w base spare held fuel t cs = some x) :
    ∃ c n : Int, cs = [.int .i64 c, .int .i64 n] ∧ x.2 = [] ∧ -9223372036854775808 ≤ c ∧ c ≤ 9223372036854775807 ∧ -9223372036854775808 ≤ n ∧ n ≤ 9223372036854775807 := by
  obtain ⟨y0, y1, m, rfl, hl, hy0, hy1⟩ := trod_struct2 hs h
  obtain ⟨o0, k0⟩ := Deep.hone_of hone 0 f0 rfl
  obtain ⟨o1, k1⟩ := Deep.hone_of hone 1 f1 rfl
  rw [hC] at hl
  obtain ⟨a0, a1, rfl⟩ : ∃ a0 a1, cs = [a0, a1] := by
    match cs, hl with
    | [a0, a1], _ => exact ⟨a0, a1, rfl⟩
  rw [o0, k0, hi0] at hy0
  rw [o1, k1, hi1] at hy1
  obtain ⟨a, e0, rfl, wa⟩ := DataW.trod_int hi hy0
  obtain ⟨b, e1, rfl, wb⟩ := DataW.trod_int hi hy1
  simp at e0 e1
  subst e0 e1
  exact ⟨a, b, rfl, rfl, (bounds_i64 wa).1, (bounds_i64 wa).2, (bounds_i64 wb).1, (bounds_i64 wb).2⟩

/-- A stamp by value: two whole numbers, each within an int. -/
theorem open_stamp {w : World} {base b0 : Nat} {spare : Nat → Bool} {held : Bool} {r : Reach} {t ti : TypeId} {f0 f1 : Field} {v : Value} {d : DataW H} {p : List MemPlace}
    (hs : P.underlying t = some (.struct #[f0, f1])) (hone : Deep.oneCellFields P #[f0, f1] = true) (hC : P.cellsOf t = 2) (hi0 : f0.type = ti) (hi1 : f1.type = ti) (hi : P.underlying ti = some (.int .i64))
    (hv : Value.okWide P w r b0 t v) (h : DataW.Trod enc P w base spare held t v d p) :
    ∃ c n : Int, v = .agg #[.int .i64 c, .int .i64 n] ∧ -9223372036854775808 ≤ c ∧ c ≤ 9223372036854775807 ∧ -9223372036854775808 ≤ n ∧ n ≤ 9223372036854775807 := by
  obtain ⟨cs, rfl, _⟩ := okWide_struct hs hv
  obtain ⟨fuel, hf⟩ := h
  obtain ⟨c, n, hcs, _, hb⟩ := stamp_cells hs hone hC hi0 hi1 hi hf
  refine ⟨c, n, ?_, hb⟩
  have : cs = #[.int .i64 c, .int .i64 n] := by
    apply Array.toList_inj.1
    simpa [Value.cells] using hcs
  rw [this]

/-- Three stamps in an array, by value. -/
theorem open_stamps3 {w : World} {base b0 : Nat} {spare : Nat → Bool} {held : Bool} {r : Reach} {ta t ti : TypeId} {f0 f1 : Field} {v : Value} {d : DataW H} {p : List MemPlace}
    (ha : P.underlying ta = some (.array 3 t)) (hA : P.cellsOf ta = 6)
    (hs : P.underlying t = some (.struct #[f0, f1])) (hone : Deep.oneCellFields P #[f0, f1] = true) (hC : P.cellsOf t = 2) (hi0 : f0.type = ti) (hi1 : f1.type = ti) (hi : P.underlying ti = some (.int .i64))
    (hv : Value.okWide P w r b0 ta v) (h : DataW.Trod enc P w base spare held ta v d p) :
    ∃ c0 n0 c1 n1 c2 n2 : Int, v = .agg #[.int .i64 c0, .int .i64 n0, .int .i64 c1, .int .i64 n1, .int .i64 c2, .int .i64 n2] ∧ c0 ≤ 9223372036854775807 := by
  simp only [Value.okWide, ha] at hv
  obtain ⟨cs, rfl, _⟩ := hv
  obtain ⟨fuel, hf⟩ := h
  obtain ⟨xs, m, _, _, hl, hxl, hx⟩ := DataW.trod_array ha hf
  have hcs : (Value.agg cs).cells.toList = cs.toList := rfl
  rw [hcs] at hl hx
  rw [hA] at hl
  rw [hC] at hx
  obtain ⟨l0, l1, l2, l3, l4, l5, hcl⟩ : ∃ l0 l1 l2 l3 l4 l5, cs.toList = [l0, l1, l2, l3, l4, l5] := by
    match cs.toList, hl with
    | [l0, l1, l2, l3, l4, l5], _ => exact ⟨l0, l1, l2, l3, l4, l5, rfl⟩
  rw [hcl] at hx
  obtain ⟨x0, x1, x2, rfl⟩ : ∃ x0 x1 x2, xs = [x0, x1, x2] := by
    match xs, hxl with
    | [x0, x1, x2], _ => exact ⟨x0, x1, x2, rfl⟩
  have e0 := hx 0 (by omega)
  have e1 := hx 1 (by omega)
  have e2 := hx 2 (by omega)
  simp at e0 e1 e2
  obtain ⟨c0, n0, h0, _, _, b0, _, _⟩ := stamp_cells hs hone hC hi0 hi1 hi e0
  obtain ⟨c1, n1, h1, _⟩ := stamp_cells hs hone hC hi0 hi1 hi e1
  obtain ⟨c2, n2, h2, _⟩ := stamp_cells hs hone hC hi0 hi1 hi e2
  simp at h0 h1 h2
  obtain ⟨rfl, rfl⟩ := h0
  obtain ⟨rfl, rfl⟩ := h1
  obtain ⟨rfl, rfl⟩ := h2
  refine ⟨c0, n0, c1, n1, c2, n2, ?_, b0⟩
  rw [← hcl]
end

end Go.Proofs.Ytoaclofobfaflaa
namespace Go.Proofs.Ytoaclofobfaflaa
open Go.ChangeShapes Go.WideShapes Go.RowKit Go.Deep

theorem pick {α : Type} (z : α) {n : Nat} {p : Nat → α → Prop} (h : ∀ i, i < n → ∃ s, p i s) : ∃ f : Nat → α, ∀ i, i < n → p i (f i) := by
  refine ⟨fun i => if hi : i < n then Classical.choose (h i hi) else z, fun i hi => ?_⟩
  simp only [hi, dite_true]
  exact Classical.choose_spec (h i hi)

theorem flat_get {α : Type} {size : Nat} (f : α → List Value) (hf : ∀ a, (f a).length = size) : ∀ (l : List α) (j : Nat) (u : Value), (l.flatMap f)[j]? = some u →
    ∃ i r a, l[i]? = some a ∧ r < size ∧ j = i * size + r ∧ (f a)[r]? = some u
  | [], j, u, h => by simp at h
  | a :: l, j, u, h => by
    rw [List.flatMap_cons] at h
    by_cases hj : j < size
    · rw [List.getElem?_append_left (by rw [hf]; exact hj)] at h
      exact ⟨0, j, a, rfl, hj, by omega, h⟩
    · rw [List.getElem?_append_right (by rw [hf]; omega), hf] at h
      obtain ⟨i, r, b, h1, h2, h3, h4⟩ := flat_get f hf l (j - size) u h
      refine ⟨i + 1, r, b, by simpa using h1, h2, ?_, h4⟩
      rw [Nat.add_mul]
      omega

section
variable {H : Type} {enc : TypeId × Value → H} {P : Program} {w : World}

/-- A slice whose elements' cells are known by 'f': it reads as a list. -/
theorem open_list {α : Type} (z : α) (f : α → List Value) (good : α → Prop) {size : Nat} (hf : ∀ a, (f a).length = size) {r : Reach} {b0 : Nat} {t e : TypeId} {v : Value} {d : DataW H} {p : List MemPlace}
    (ht : P.underlying t = some (.slice e)) (hC : P.cellsOf e = size) (hsz : 0 < size)
    (helem : ∀ (fuel : Nat) (cs : List Value) (x : DataW H × List MemPlace), DataW.trod enc P w 0 (fun _ => true) true fuel e cs = some x → ∃ a, cs = f a ∧ good a)
    (hv : Value.okWide P w r b0 t v) (h : DataW.Trod enc P w 0 (fun _ => true) true t v d p) :
    ∃ (A : Option Addr) (cap : Nat) (l : List α), v = .slice A l.length cap ∧ l.length ≤ cap ∧ cap ≤ maxLen ∧ (A = none → l.length = 0 ∧ cap = 0) ∧ Lies w A (l.flatMap f) ∧ (∀ a ∈ l, good a) ∧
      ((d = .nil ∧ l.length = 0 ∧ cap = 0) ∨ ∃ elems spare, d = .slice elems spare ∧ elems.length = l.length ∧ elems.length + spare.length = cap) := by
  obtain ⟨a0, len0, cap0, rfl⟩ := okWide_slice ht hv
  obtain ⟨fuel, hfu⟩ := h
  rcases open_slice ht hfu with ⟨hcs, hx⟩ | ⟨a, len, cap, m, n, D, Pl, hcs, _, hl, hm, hmm, hx, hi⟩
  · simp [Value.cells] at hcs hx
    obtain ⟨rfl, rfl, rfl⟩ := hcs
    exact ⟨none, 0, [], rfl, Nat.le_refl _, Nat.zero_le _, fun _ => ⟨rfl, rfl⟩, Lies.nil, by simp, .inl ⟨hx.1, rfl, rfl⟩⟩
  · simp [Value.cells] at hcs hx hmm
    obtain ⟨rfl, rfl, rfl⟩ := hcs
    subst hmm
    obtain ⟨g, hg⟩ := pick (n := len0) (p := fun i s => good s ∧ ∀ j, j < size → w.cell? (a.add (i * size + j)) = (f s)[j]?) z (fun i hi' => by
      obtain ⟨cs', hc, ht'⟩ := hi i (by omega)
      rw [hC] at hc
      obtain ⟨s, rfl, hs⟩ := helem _ _ _ ht'
      obtain ⟨_, _, hcell⟩ := World.cells?_some hc
      refine ⟨s, hs, fun j hj => ?_⟩
      rw [← hcell j hj, Go.Deep.add_add])
    refine ⟨some a, m, (List.range len0).map g, by simp, by simpa using hl, hm, (fun h => by cases h), (fun hne => ?_), ?_, .inr ⟨_, _, hx.1, by simp, by simp; omega⟩⟩
    · have hpos : 0 < len0 := by
        rcases Nat.eq_zero_or_pos len0 with h0 | h0
        · subst h0; simp at hne
        · exact h0
      obtain ⟨b, off, spot⟩ := a
      have h00 := (hg 0 hpos).2 0 hsz
      have hspot : spot = none := by
        have hlen := hf (g 0)
        rw [List.getElem?_eq_getElem (by omega)] at h00
        simpa [Addr.add] using World.cell?_spot h00
      subst hspot
      refine ⟨b, off, rfl, fun j u hu => ?_⟩
      obtain ⟨i, r, s, h1, h2, h3, h4⟩ := flat_get f hf _ j u hu
      have hil : i < len0 := by
        have := (List.getElem?_eq_some_iff.1 h1).1
        simpa using this
      simp [hil] at h1
      subst h1
      rw [← Go.WideShapes.add_plain, h3, (hg i hil).2 r h2]
      exact h4
    · intro s hs
      simp at hs
      obtain ⟨i, hil, rfl⟩ := hs
      exact (hg i hil).1

def stCell (s : Int × Int) : List Value := [.int .i64 s.1, .int .i64 s.2]
theorem stCells_flat (l : List (Int × Int)) : l.flatMap stCell = stCells l := by
  induction l with
  | nil => rfl
  | cons s r ih => simp [stCells, stCell, ih]

/-- A slice of stamps. -/
theorem open_stamps {r : Reach} {b0 : Nat} {t e ti : TypeId} {f0 f1 : Field} {v : Value} {d : DataW H} {p : List MemPlace}
    (ht : P.underlying t = some (.slice e)) (hs : P.underlying e = some (.struct #[f0, f1])) (hone : Deep.oneCellFields P #[f0, f1] = true) (hC : P.cellsOf e = 2) (hi0 : f0.type = ti) (hi1 : f1.type = ti) (hi : P.underlying ti = some (.int .i64))
    (hv : Value.okWide P w r b0 t v) (h : DataW.Trod enc P w 0 (fun _ => true) true t v d p) :
    ∃ (A : Option Addr) (cap : Nat) (l : List (Int × Int)), v = .slice A l.length cap ∧ l.length ≤ cap ∧ cap ≤ maxLen ∧ (A = none → l.length = 0 ∧ cap = 0) ∧ Lies w A (stCells l) ∧
      (∀ s ∈ l, -9223372036854775808 ≤ s.1 ∧ s.1 ≤ 9223372036854775807 ∧ -9223372036854775808 ≤ s.2 ∧ s.2 ≤ 9223372036854775807) ∧
      ((d = .nil ∧ l.length = 0 ∧ cap = 0) ∨ ∃ elems spare, d = .slice elems spare ∧ elems.length = l.length ∧ elems.length + spare.length = cap) := by
  have := open_list (0, 0) stCell (fun s => -9223372036854775808 ≤ s.1 ∧ s.1 ≤ 9223372036854775807 ∧ -9223372036854775808 ≤ s.2 ∧ s.2 ≤ 9223372036854775807) (size := 2) (fun _ => rfl) ht hC (by decide)
    (fun fuel cs x hx => by
      obtain ⟨c, n, rfl, _, h1, h2, h3, h4⟩ := stamp_cells hs hone hC hi0 hi1 hi hx
      exact ⟨(c, n), rfl, h1, h2, h3, h4⟩) hv h
  obtain ⟨A, cap, l, h1, h2, h3, h4, h5, h6, h7⟩ := this
  rw [stCells_flat] at h5
  exact ⟨A, cap, l, h1, h2, h3, h4, h5, h6, h7⟩

/-- A slice of whole numbers. -/
theorem open_nums {r : Reach} {b0 : Nat} {t e : TypeId} {v : Value} {d : DataW H} {p : List MemPlace}
    (ht : P.underlying t = some (.slice e)) (hi : P.underlying e = some (.int .i64)) (hC : P.cellsOf e = 1)
    (hv : Value.okWide P w r b0 t v) (h : DataW.Trod enc P w 0 (fun _ => true) true t v d p) :
    ∃ (A : Option Addr) (cap : Nat) (l : List Int), v = .slice A l.length cap ∧ l.length ≤ cap ∧ cap ≤ maxLen ∧ (A = none → l.length = 0 ∧ cap = 0) ∧ Lies w A (l.map (Value.int .i64)) ∧
      ((d = .nil ∧ l.length = 0 ∧ cap = 0) ∨ ∃ elems spare, d = .slice elems spare ∧ elems.length = l.length ∧ elems.length + spare.length = cap) := by
  have := open_list (0 : Int) (fun n => [Value.int .i64 n]) (fun _ => True) (size := 1) (fun _ => rfl) ht hC (by decide)
    (fun fuel cs x hx => by
      obtain ⟨a, e0, rfl, wa⟩ := DataW.trod_int hi hx
      exact ⟨a, e0, trivial⟩) hv h
  obtain ⟨A, cap, l, h1, h2, h3, h4, h5, h6, h7⟩ := this
  have hfl : ∀ l : List Int, l.flatMap (fun n => [Value.int .i64 n]) = l.map (Value.int .i64) := fun l => by
    induction l with
    | nil => rfl
    | cons s r ih => rw [List.flatMap_cons, ih]; rfl
  rw [hfl] at h5
  exact ⟨A, cap, l, h1, h2, h3, h4, h5, h7⟩
end

end Go.Proofs.Ytoaclofobfaflaa
namespace Go.Proofs.Ytoaclofobfaflaa
open Go.ChangeShapes Go.WideShapes Go.RowKit Go.Deep

section
variable {H : Type} {enc : TypeId × Value → H} {P : Program} {w : World}

/-- A slice whose elements' cells are known by 'f', at its own cell. -/
theorem open_list_at {α : Type} (z : α) (f : α → List Value) {size : Nat} (hf : ∀ a, (f a).length = size) {t e : TypeId} {fuel0 : Nat} {cs0 : List Value} {y : DataW H × List MemPlace}
    (ht : P.underlying t = some (.slice e)) (hC : P.cellsOf e = size) (hsz : 0 < size)
    (helem : ∀ (fuel : Nat) (cs : List Value) (x : DataW H × List MemPlace), DataW.trod enc P w 0 (fun _ => true) true fuel e cs = some x → ∃ a, cs = f a)
    (hfu : DataW.trod enc P w 0 (fun _ => true) true fuel0 t cs0 = some y) :
    ∃ (A : Option Addr) (cap : Nat) (l : List α), cs0 = [.slice A l.length cap] ∧ l.length ≤ cap ∧ cap ≤ maxLen ∧ (A = none → l.length = 0 ∧ cap = 0) ∧ Lies w A (l.flatMap f) ∧
      ((y.1 = .nil ∧ l.length = 0 ∧ cap = 0) ∨ ∃ elems spare, y.1 = .slice elems spare ∧ elems.length = l.length ∧ elems.length + spare.length = cap) := by
  rcases open_slice ht hfu with ⟨hcs, hx⟩ | ⟨a, len, cap, m, n, D, Pl, hcs, _, hl, hm, hmm, hx, hi⟩
  · subst hcs hx
    exact ⟨none, 0, [], rfl, Nat.le_refl _, Nat.zero_le _, fun _ => ⟨rfl, rfl⟩, Lies.nil, .inl ⟨rfl, rfl, rfl⟩⟩
  · simp at hmm
    subst hmm
    obtain ⟨g, hg⟩ := pick (n := len) (p := fun i s => ∀ j, j < size → w.cell? (a.add (i * size + j)) = (f s)[j]?) z (fun i hi' => by
      obtain ⟨cs', hc, ht'⟩ := hi i (by omega)
      rw [hC] at hc
      obtain ⟨s, rfl⟩ := helem _ _ _ ht'
      obtain ⟨_, _, hcell⟩ := World.cells?_some hc
      refine ⟨s, fun j hj => ?_⟩
      rw [← hcell j hj, Go.Deep.add_add])
    refine ⟨some a, m, (List.range len).map g, by simpa using hcs, by simpa using hl, hm, (fun h => by cases h), (fun hne => ?_), .inr ⟨_, _, by rw [hx], by simp, by simp; omega⟩⟩
    have hpos : 0 < len := by
      rcases Nat.eq_zero_or_pos len with h0 | h0
      · subst h0; simp at hne
      · exact h0
    obtain ⟨b, off, spot⟩ := a
    have h00 := hg 0 hpos 0 hsz
    have hspot : spot = none := by
      have hlen := hf (g 0)
      rw [List.getElem?_eq_getElem (by omega)] at h00
      simpa [Addr.add] using World.cell?_spot h00
    subst hspot
    refine ⟨b, off, rfl, fun j u hu => ?_⟩
    obtain ⟨i, r, s, h1, h2, h3, h4⟩ := flat_get f hf _ j u hu
    have hil : i < len := by
      have := (List.getElem?_eq_some_iff.1 h1).1
      simpa using this
    simp [hil] at h1
    subst h1
    rw [← Go.WideShapes.add_plain, h3, hg i hil r h2]
    exact h4

/-- A slice of slices of stamps. -/
theorem open_rows {r : Reach} {b0 : Nat} {tt t e ti : TypeId} {f0 f1 : Field} {v : Value} {d : DataW H} {p : List MemPlace}
    (htt : P.underlying tt = some (.slice t)) (hCt : P.cellsOf t = 1)
    (ht : P.underlying t = some (.slice e)) (hs : P.underlying e = some (.struct #[f0, f1])) (hone : Deep.oneCellFields P #[f0, f1] = true) (hC : P.cellsOf e = 2) (hi0 : f0.type = ti) (hi1 : f1.type = ti) (hi : P.underlying ti = some (.int .i64))
    (hv : Value.okWide P w r b0 tt v) (h : DataW.Trod enc P w 0 (fun _ => true) true tt v d p) :
    ∃ (A : Option Addr) (cap : Nat) (ls : List (List (Int × Int))), v = .slice A ls.length cap ∧ ls.length ≤ cap ∧ cap ≤ maxLen ∧ (A = none → ls.length = 0 ∧ cap = 0) ∧ Rows w A ls ∧
      ∀ k, k < ls.length → (ls.getD k []).length = 0 ∨ ∃ elems spare e' sp', d = .slice elems spare ∧ DataW.slice e' sp' ∈ elems ∧ e'.length = (ls.getD k []).length := by
  obtain ⟨a0, len0, cap0, rfl⟩ := okWide_slice htt hv
  obtain ⟨fuel, hfu⟩ := h
  rcases open_slice1 htt hCt hfu with ⟨hcs, hx⟩ | ⟨a, len, cap, m, n, V, D, Pl, hcs, _, hl, hm, hmm, hx, hin⟩
  · simp [Value.cells] at hcs hx
    obtain ⟨rfl, rfl, rfl⟩ := hcs
    exact ⟨none, 0, [], rfl, Nat.le_refl _, Nat.zero_le _, fun _ => ⟨rfl, rfl⟩, Rows.nil, fun k hk => by simp at hk⟩
  · simp [Value.cells] at hcs hx hmm
    obtain ⟨rfl, rfl, rfl⟩ := hcs
    subst hmm
    obtain ⟨g, hg⟩ := pick (n := len0) (p := fun i (x : Option Addr × Nat × List (Int × Int)) => w.cell? (a.add i) = some (.slice x.1 x.2.2.length x.2.1) ∧ OneL w x.1 x.2.1 x.2.2 ∧
        (x.2.2.length = 0 ∨ ∃ e' sp', D i = .slice e' sp' ∧ e'.length = x.2.2.length)) (none, 0, []) (fun i hi' => by
      obtain ⟨h1, h2⟩ := hin i (by omega)
      obtain ⟨A, c, l, e1, e2, e3, e4, e5, e6⟩ := open_list_at (0, 0) stCell (size := 2) (fun _ => rfl) ht hC (by decide) (fun fuel cs x hx => by
        obtain ⟨c, n, rfl, _⟩ := stamp_cells hs hone hC hi0 hi1 hi hx
        exact ⟨(c, n), rfl⟩) h2
      rw [stCells_flat] at e5
      injection e1 with e1
      refine ⟨(A, c, l), by rw [h1, e1], ⟨e2, e3, e4, e5⟩, ?_⟩
      rcases e6 with ⟨_, e6, _⟩ | ⟨el, sp, e6, e7, _⟩
      · exact .inl e6
      · exact .inr ⟨el, sp, e6, e7⟩)
    have hget : ∀ k, k < len0 → ((List.range len0).map fun i => (g i).2.2).getD k [] = (g k).2.2 := fun k hk => by
      rw [List.getD_eq_getElem?_getD]
      simp [hk]
    refine ⟨some a, m, (List.range len0).map fun i => (g i).2.2, by simp, by simpa using hl, hm, (fun h => by cases h), (fun hne => ?_), fun k hk => ?_⟩
    · have hpos : 0 < len0 := by
        rcases Nat.eq_zero_or_pos len0 with h0 | h0
        · subst h0; simp at hne
        · exact h0
      obtain ⟨b, off, spot⟩ := a
      have hspot : spot = none := by simpa [Addr.add] using World.cell?_spot (hg 0 hpos).1
      subst hspot
      refine ⟨b, off, rfl, fun k hk => ?_⟩
      have hk' : k < len0 := by simpa using hk
      rw [hget k hk']
      obtain ⟨h1, h2, _⟩ := hg k hk'
      rw [Go.WideShapes.add_plain] at h1
      exact ⟨(g k).1, (g k).2.1, h1, h2⟩
    · have hk' : k < len0 := by simpa using hk
      rw [hget k hk']
      obtain ⟨_, _, h3⟩ := hg k hk'
      rcases h3 with h3 | ⟨e', sp', h3, h4⟩
      · exact .inl h3
      · refine .inr ⟨_, _, e', sp', hx.1, ?_, h4⟩
        rw [← h3]
        exact List.mem_map.2 ⟨k, List.mem_range.2 hk', rfl⟩

theorem weightsAll_flat (e : TypeId) : ∀ l : List (DataW H), DataW.weightsAll P e l = l.flatMap (DataW.weights P e)
  | [] => rfl
  | d :: r => by rw [List.flatMap_cons, ← weightsAll_flat e r]; rfl
/-- How long a row inside a slice of slices can be. -/
theorem sized_in {ts : List TypeId} {ds : List (DataW H)} (h : (DataW.weightsEach P ts ds).all (· ≤ reachBytes) = true) {j : Nat} {t e q : TypeId} {elems spare e' sp' : List (DataW H)}
    (ht : ts[j]? = some t) (hd : ds[j]? = some (.slice elems spare)) (hu : P.underlying t = some (.slice e)) (hu2 : P.underlying e = some (.slice q)) (hx : DataW.slice e' sp' ∈ elems) : (e'.length + sp'.length) * P.bytesOf q ≤ reachBytes := by
  have hin : (e'.length + sp'.length) * P.bytesOf q ∈ DataW.weights P e (.slice e' sp') := by unfold DataW.weights; rw [hu2]; exact List.mem_cons_self ..
  have hout : (e'.length + sp'.length) * P.bytesOf q ∈ DataW.weights P t (.slice elems spare) := by
    unfold DataW.weights
    rw [hu]
    refine List.mem_cons_of_mem _ (List.mem_append_left _ ?_)
    rw [weightsAll_flat]
    exact List.mem_flatMap.2 ⟨_, hx, hin⟩
  simpa using List.all_eq_true.1 h _ (DataW.weights_mem_each ht hd _ hout)
end

end Go.Proofs.Ytoaclofobfaflaa
