/-
  The mathematics of the law CacheRoom: what is there stands in the order in which it came; the last one is there if it has room.
-/
import Derived.Test.YtmccednfaemiaaaCaLawG
namespace Go.Proofs.Ytmccednfaemiaaa
open Go.RowKit

namespace Ca
theorem fit_suffix (room : Int) : ∀ l : List Bd, fit room l <:+ l
  | [] => List.suffix_refl _
  | x :: r => by
    unfold fit
    split
    · exact (fit_suffix room r).trans (List.suffix_cons x r)
    · exact List.suffix_refl _
theorem fit_used (room : Int) (h0 : 0 ≤ room) : ∀ l : List Bd, (used (fit room l) : Int) ≤ room
  | [] => by simp [fit, used]; exact h0
  | x :: r => by
    unfold fit
    split
    · exact fit_used room h0 r
    · omega
theorem fit_last (room : Int) (x : Bd) (hx : (x.v.length : Int) ≤ room) : ∀ l : List Bd, ∃ g, fit room (l ++ [x]) = g ++ [x] ∧ g <:+ l
  | [] => ⟨[], by
    show fit room [x] = [x]
    unfold fit
    rw [if_neg (by simp [used]; omega)], List.suffix_refl _⟩
  | y :: r => by
    show ∃ g, fit room (y :: (r ++ [x])) = g ++ [x] ∧ g <:+ y :: r
    unfold fit
    split
    · obtain ⟨g, h1, h2⟩ := fit_last room x hx r
      exact ⟨g, h1, h2.trans (List.suffix_cons y r)⟩
    · exact ⟨y :: r, rfl, List.suffix_refl _⟩
theorem fit_gone_all (room : Int) (x : Bd) (hx : room < (x.v.length : Int)) : ∀ l : List Bd, fit room (l ++ [x]) = []
  | [] => by
    show fit room [x] = []
    unfold fit
    rw [if_pos (by simp [used]; omega)]
    rfl
  | y :: r => by
    show fit room (y :: (r ++ [x])) = []
    unfold fit
    rw [if_pos, fit_gone_all room x hx r]
    simp only [used, used_append]
    omega
/-- Which bodies are as they must be: each right, no two of one object. -/
theorem oks_list (l : List Bd) : oks l = true ↔ (∀ x ∈ l, Wi.bright x = true) ∧ l.Pairwise (fun x y => x.o ≠ y.o) := by
  rw [oks_iff, List.pairwise_iff_getElem]
  have hg : ∀ j (hj : j < l.length), l.getD j Bd.zero = l[j] := fun j hj => by rw [List.getD_eq_getElem?_getD, List.getElem?_eq_getElem hj]; rfl
  constructor
  · intro h
    refine ⟨fun x hx => ?_, fun i j hi hj hij => ?_⟩
    · obtain ⟨j, hj, rfl⟩ := List.mem_iff_getElem.1 hx
      have := (h j hj).1
      rwa [hg j hj] at this
    · have := (h j hj).2 i hij
      rwa [hg i hi, hg j hj] at this
  · rintro ⟨h1, h2⟩ j hj
    refine ⟨by rw [hg j hj]; exact h1 _ (List.getElem_mem hj), fun i hi => ?_⟩
    rw [hg j hj, hg i (by omega)]
    exact h2 i j (by omega) hj hi
/-- What a put keeps, where no more than 256 came. -/
theorem put_room {S C : List Bd} {room : Int} {x : Bd} (hf : fmd S room = true) (hs : S.Sublist C) (hC : C.length < 256) (hx : Wi.bright x = true) :
    putR S room x = (fit room (forget S x.o ++ [x]), 0) ∧ fmd (fit room (forget S x.o ++ [x])) room = true ∧ (fit room (forget S x.o ++ [x])).Sublist (C ++ [x]) ∧
      getR (fit room (forget S x.o ++ [x])) x.o x.c x.n = (if (x.v.length : Int) ≤ room then (x.v, 0) else ([], 10)) := by
  have hf0 := hf
  unfold fmd at hf
  simp only [Bool.and_eq_true, decide_eq_true_eq] at hf
  obtain ⟨⟨r0, r1, -⟩, h4, -⟩ := hf
  obtain ⟨hb, hp⟩ := (oks_list S).1 h4
  have hfs : (forget S x.o).Sublist S := List.filter_sublist
  have hsub : (forget S x.o ++ [x]).Sublist (C ++ [x]) := (hfs.trans hs).append (List.Sublist.refl _)
  have hfit := fit_suffix room (forget S x.o ++ [x])
  have hall : oks (forget S x.o ++ [x]) = true := by
    rw [oks_list]
    refine ⟨fun y hy => ?_, List.pairwise_append.2 ⟨hp.sublist hfs, List.pairwise_singleton _ _, fun a ha b hb => ?_⟩⟩
    · rcases List.mem_append.1 hy with hy | hy
      · exact hb y (hfs.subset hy)
      · rw [List.mem_singleton] at hy; subst hy; exact hx
    · rw [List.mem_singleton] at hb
      subst hb
      have := (List.mem_filter.1 ha).2
      simpa using this
  have hsfit := hfit.sublist.trans hsub
  refine ⟨by unfold putR; rw [if_pos hf0, if_pos hx], ?_, hsfit, ?_⟩
  · have hl := hsfit.length_le
    rw [List.length_append] at hl
    simp at hl
    have h5 : oks (fit room (forget S x.o ++ [x])) = true := by
      obtain ⟨q1, q2⟩ := (oks_list _).1 hall
      exact (oks_list _).2 ⟨fun y hy => q1 y (hfit.sublist.subset hy), q2.sublist hfit.sublist⟩
    unfold fmd
    rw [decide_eq_true (show 0 ≤ room ∧ room ≤ 16777216 ∧ _ ≤ 256 from ⟨r0, r1, by omega⟩), h5, decide_eq_true (fit_used room r0 _)]
    rfl
  · by_cases hv : (x.v.length : Int) ≤ room
    · rw [if_pos hv]
      obtain ⟨g, h1, h2⟩ := fit_last room x hv (forget S x.o)
      rw [h1]
      have : find (g ++ [x]) x.o x.c x.n = some x := by
        unfold find
        rw [List.find?_append]
        have hnone : g.find? (fun y => decide (y.o = x.o ∧ y.c = x.c ∧ y.n = x.n)) = none := by
          rw [List.find?_eq_none]
          intro y hy e
          have h3 := (List.mem_filter.1 (h2.subset hy)).2
          have h4 := (of_decide_eq_true e).1
          simp [h4] at h3
        rw [hnone]
        simp
      unfold getR
      rw [this]
    · rw [if_neg hv, fit_gone_all room x (by omega)]
      rfl
theorem put_wrong {S : List Bd} {room : Int} {x : Bd} (hf : fmd S room = true) (hx : Wi.bright x = false) : putR S room x = ([], 1) := by unfold putR; rw [if_pos hf, if_neg (by rw [hx]; exact Bool.false_ne_true)]
theorem fmd_nil {room : Int} (h0 : 0 ≤ room) (h1 : room ≤ 16777216) : fmd [] room = true := by
  unfold fmd
  rw [decide_eq_true (show 0 ≤ room ∧ room ≤ 16777216 ∧ ([] : List Bd).length ≤ 256 from ⟨h0, h1, Nat.zero_le _⟩)]
  simp [used, oks, h0]
/-- The last one of a part is found in the whole, and all ahead of it ahead of there. -/
theorem sub_last {a c : List Bd} {s : Bd} (h : (a ++ [s]).Sublist c) : ∃ p, p < c.length ∧ c[p]? = some s ∧ a.Sublist (c.take p) := by
  obtain ⟨c1, c2, rfl, h1, h2⟩ := List.append_sublist_iff.1 h
  have hm : s ∈ c2 := h2.subset (by simp)
  obtain ⟨d1, d2, rfl⟩ := List.append_of_mem hm
  refine ⟨c1.length + d1.length, by simp, ?_, ?_⟩
  · rw [List.getElem?_append_right (by omega), Nat.add_sub_cancel_left, List.getElem?_append_right (Nat.le_refl _), Nat.sub_self]
    rfl
  · rw [List.take_append, List.take_of_length_le (Nat.le_add_right _ _), Nat.add_sub_cancel_left, List.take_left]
    exact h1.trans (List.sublist_append_left _ _)
theorem sub_take {a c : List Bd} {p q : Nat} (h : a.Sublist (c.take p)) (hpq : p ≤ q) : a.Sublist (c.take q) := h.trans (by
  rw [show c.take p = (c.take q).take p from by rw [List.take_take, Nat.min_eq_left hpq]]
  exact List.take_sublist _ _)
end Ca
end Go.Proofs.Ytmccednfaemiaaa
