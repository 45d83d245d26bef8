/-
  A loop over a function that stands in an ordinary loop: each time it is entered it leaves a mark; the marks are taken up when the function returns.
-/
import Derived.Test.YtjdiopoikppifaaDevVector
namespace Go.Proofs.Ytjdiopoikppifaa
open Go.RowKit Go.Shelf

def Mark (D : Nat) : Deferred := { target := .collected D, args := #[] }
/-- The marks that have been left: each has its own block, which holds no call. -/
def Marks (n₀ : Nat) (Ds : List Nat) (W : World) : Prop := Ds.Nodup ∧ ∀ D ∈ Ds, n₀ ≤ D ∧ W.heap[D]? = some (.deferred (some []))
theorem Marks.nil (n₀ : Nat) (W : World) : Marks n₀ [] W := ⟨List.nodup_nil, fun _ h => by cases h⟩
theorem Marks.lt {n₀ : Nat} {Ds : List Nat} {W : World} (h : Marks n₀ Ds W) : ∀ D ∈ Ds, D < W.heap.size := fun D hD => (Array.getElem?_eq_some_iff.1 (h.2 D hD).2).1
theorem Marks.later {n₀ : Nat} {Ds : List Nat} {W W' : World} (h : Marks n₀ Ds W) (hb : Below W.heap.size W W') : Marks n₀ Ds W' := ⟨h.1, fun D hD => ⟨(h.2 D hD).1, (hb.block D (h.lt D hD)).trans (h.2 D hD).2⟩⟩
theorem Marks.others {n₀ : Nat} {Ds : List Nat} {W W' : World} (h : Marks n₀ Ds W) (hb : KeepsOthers W W') : Marks n₀ Ds W' := ⟨h.1, fun D hD => ⟨(h.2 D hD).1, hb.same D _ (h.2 D hD).2 rfl⟩⟩
theorem Marks.cons {n₀ D : Nat} {Ds : List Nat} {W : World} (h : Marks n₀ Ds W) (hn : n₀ ≤ D) (hD : D ∉ Ds) (hK : W.heap[D]? = some (.deferred (some []))) : Marks n₀ (D :: Ds) W :=
  ⟨List.nodup_cons.2 ⟨hD, h.1⟩, fun k hk => by
    rcases List.mem_cons.1 hk with rfl | hk
    · exact ⟨hn, hK⟩
    · exact h.2 k hk⟩
theorem marks_own {β : Type} {n₀ B : Nat} {Ds : List Nat} (hlt : ∀ D ∈ Ds, D < B) : OwnFrom (β := β) B (fun _ W => Marks n₀ Ds W) := fun _ A C row hs hg hr =>
  ⟨hs.1, fun D hD => ⟨(hs.2 D hD).1, (hg.block D (hs.lt D hD) (fun e => by have := (hr D e.symm).1; have := hlt D hD; omega)).trans (hs.2 D hD).2⟩⟩
theorem blk_own {β : Type} (g : Nat) (t : TypeId) (f : β → Array Value) : Own (fun s W => Blk W g t (f s)) := fun s A C row hs hg hr =>
  (hg.block g hs.lt (fun e => by
    obtain ⟨o, ho, hc⟩ := hr g e.symm
    rw [show A.heap[g]? = _ from hs] at ho
    cases ho
    cases hc)).trans hs

/-- The function's return: all its marks are taken up. -/
theorem leaves_marks {P : Program} {F : Fence} {n : Nat} {fn : Func} {tmps : Array Value} {R : Ending → World → Prop} {n₀ : Nat} (Q : World → Prop)
    (hQ : ∀ w D, Q w → n₀ ≤ D → w.heap[D]? = some (.deferred (some [])) → Q (w.putObj D (.deferred none)))
    (hR : ∀ w, Q w → LeavesInM F n P fn tmps R [] .returning w) : ∀ (Ds : List Nat) (w : World), Marks n₀ Ds w → Q w → LeavesInM F n P fn tmps R (Ds.map Mark) .returning w
  | [], w, _, h => hR w h
  | D :: Ds, w, hm, h => by
    have hD := hm.2 D (List.mem_cons_self ..)
    have hnd := List.nodup_cons.1 hm.1
    refine ⟨by simp, .inl ⟨D, _, rfl, run_takeDeferred hD.2, ?_⟩⟩
    refine leaves_marks Q hQ hR Ds _ ⟨hnd.2, fun k hk => ⟨(hm.2 k (List.mem_cons_of_mem _ hk)).1, ?_⟩⟩ (hQ w D h hD.1 hD.2)
    have hne : D ≠ k := fun e => hnd.1 (by rw [e]; exact hk)
    exact (World.putObj_heap_other (fun e => hne e.symm)).trans (hm.2 k (List.mem_cons_of_mem _ hk)).2

/-- The greater of each node, of those that have come. -/
def putAll (f g : Nat → Int) (pre : List (Fin 64)) : Nat → Int := pre.foldl (fun h i => fun j => if j = i.val then (if h j < g j then g j else h j) else h j) f
theorem putAll_snoc (f g : Nat → Int) (pre : List (Fin 64)) (x : Fin 64) (j : Nat) : putAll f g (pre ++ [x]) j = if j = x.val then (if putAll f g pre j < g j then g j else putAll f g pre j) else putAll f g pre j := by
  unfold putAll
  rw [List.foldl_append]
  rfl
theorem putAll_comes (f g : Nat → Int) (hf : ∀ n, 0 ≤ f n) : ∀ k, k ≤ 64 → ∀ j, putAll f g (comes node g k) j = Ve.mxTo f g k j
  | 0, _, j => by unfold Ve.mxTo; rw [if_neg (by omega)]; rfl
  | k + 1, h, j => by
    have ih := putAll_comes f g hf k (by omega)
    have hv := node_val (k := k) (by omega)
    have hfk := hf k
    have hk : Ve.mxTo f g k k = f k := by unfold Ve.mxTo; rw [if_neg (by omega)]
    rw [← Ve.mx_step f g k _ rfl j]
    by_cases hp : 0 < g k
    · rw [comes_yes _ _ _ hp, putAll_snoc, hv, ih j]
      by_cases hj : j = k
      · rw [if_pos hj, if_pos hj, hj, hk]
      · rw [if_neg hj, if_neg hj]
    · rw [comes_no _ _ _ hp, ih j]
      by_cases hj : j = k
      · rw [if_pos hj, hj, hk, if_neg (by omega)]
      · rw [if_neg hj]
theorem putAll_all (f g : Nat → Int) (hf : ∀ n, 0 ≤ f n) (j : Nat) (hj : j < 64) : putAll f g (comes node g 64) j = if f j < g j then g j else f j := by
  rw [putAll_comes f g hf 64 (Nat.le_refl _) j]
  unfold Ve.mxTo
  rw [if_pos hj]

end Go.Proofs.Ytjdiopoikppifaa
