/-
  What vector's Greatest answers: the greatest count, by a loop over All.
-/
import Derived.Test.YtjdiopoikppifaaDevAll
namespace Go.Proofs.Ytjdiopoikppifaa
open Go.RowKit Go.Shelf
attribute [local go_sem] Oper.semAt_some

/-- Node k, as one of 64. -/
def node (k : Nat) : Fin 64 := ⟨k % 64, Nat.mod_lt _ (by omega)⟩
theorem node_val {k : Nat} (h : k < 64) : (node k).val = k := Nat.mod_eq_of_lt h
/-- What a round is told: the node and its count. -/
def tellN (f : Nat → Int) (i : Fin 64) : Array Value := #[.int .i64 (i.val : Int), .int .i64 (f i.val)]
theorem tellN_node (f : Nat → Int) (k : Nat) (h : k < 64) : tellN f (node k) = #[.int .i64 (k : Int), .int .i64 (f k)] := by unfold tellN; rw [node_val h]
theorem comes_mem (f : Nat → Int) (i : Fin 64) : ∀ k, k ≤ 64 → (i ∈ comes node f k ↔ i.val < k ∧ 0 < f i.val)
  | 0, _ => by simp [comes]
  | k + 1, h => by
    have ih := comes_mem f i k (by omega)
    have hv := node_val (k := k) (by omega)
    rw [comes, List.mem_append, ih]
    constructor
    · rintro (⟨h1, h2⟩ | h1)
      · exact ⟨by omega, h2⟩
      · split at h1
        · rename_i hp
          rw [List.mem_singleton] at h1
          rw [h1, hv]
          exact ⟨by omega, hp⟩
        · cases h1
    · rintro ⟨h1, h2⟩
      rcases Nat.lt_or_ge i.val k with h3 | h3
      · exact .inl ⟨h3, h2⟩
      · have h4 : i.val = k := by omega
        rw [h4] at h2
        rw [if_pos h2]
        exact .inr (List.mem_singleton.2 (Fin.ext (by rw [hv]; exact h4)))

/-- The loop over a walker, with nodes as the rounds' things. -/
theorem walk_stops (f : Nat → Int) (b : Nat) (t : TypeId) (Kp : World → World → Prop) (w : World) (hB : Blk w b t (Ve.arr f)) :
    SeqStopsK Fence.wide 2 Try.prog 40 #[.pointer (some ⟨b, 0, none⟩)] (tellN f) Kp (· = comes node f 64) (fun pre => ∃ k, k ≤ 64 ∧ pre = comes node f k) 64 w :=
  each_stops (tellN f) node f (tellN_node f) Fence.wide 2 trivial rfl (by omega) b t Kp w hB

def topOf (f : Nat → Int) (pre : List (Fin 64)) : Int := pre.foldl (fun m i => if m < f i.val then f i.val else m) 0
theorem topOf_snoc (f : Nat → Int) (pre : List (Fin 64)) (i : Fin 64) : topOf f (pre ++ [i]) = if topOf f pre < f i.val then f i.val else topOf f pre := by
  unfold topOf
  rw [List.foldl_append]
  rfl
theorem topTo_nonneg (f : Nat → Int) : ∀ k, 0 ≤ Ve.topTo f k
  | 0 => Int.le_refl _
  | k + 1 => by
    have := topTo_nonneg f k
    unfold Ve.topTo
    split <;> omega
theorem topOf_comes (f : Nat → Int) : ∀ k, k ≤ 64 → topOf f (comes node f k) = Ve.topTo f k
  | 0, _ => rfl
  | k + 1, h => by
    have ih := topOf_comes f k (by omega)
    have hn := topTo_nonneg f k
    have hv := node_val (k := k) (by omega)
    by_cases hf : 0 < f k
    · rw [comes_yes _ _ _ hf, topOf_snoc, ih, hv]
      rfl
    · rw [comes_no _ _ _ hf, ih, Ve.topTo, if_neg (by omega)]
theorem topOf_all (f : Nat → Int) : topOf f (comes node f 64) = Ve.top f := topOf_comes f 64 (Nat.le_refl _)

set_option maxRecDepth 100000 in
set_option maxHeartbeats 3200000 in
theorem greatest_any (A : Option Addr) (c : Nat) (l : List (Int × Int)) (w : World) (h1 : OneL w A c l) :
    Calls Try.prog 17 #[.slice A l.length c] w (Says (.int .i64 (Ve.top (Ve.cnt l))) w) := by
  have n1 := fun wx (hx : OneL wx A c l) => All_any A c l wx hx
  rw [← topOf_all]
  obtain ⟨f, hf⟩ : ∃ f, Ve.cnt l = f := ⟨_, rfl⟩
  rw [hf] at n1 ⊢
  obtain ⟨J, hJ⟩ : ∃ J, comes node f 64 = J := ⟨_, rfl⟩
  have hsq := fun b t w hB => walk_stops f b t (fun _ _ => True) w hB
  rw [hJ] at hsq ⊢
  have SQ := Lib.hid hsq
  have N1 := Lib.hid n1
  have H1 := Lib.hid h1
  clear n1 h1 hf hJ hsq
  refine (callsIn_wide (n := 3)).1 ?_
  refine callsIn_of_wp_marks Try.func17 rfl trivial ?_ rfl
  simp only [Try.ntmps17, List.size_toArray, List.length_cons, List.length_nil, Nat.reduceAdd, Nat.reduceSub, Array.replicate_succ, Array.replicate_zero, List.push_toArray, List.append_toArray, List.nil_append, List.cons_append]
  gi_wp2_with fail
  have hb0 := below_new (Below.refl w.heap.size w) (.cells #[.int .i64 0] 3)
  have hB0 := Blk.new w 3 #[.int .i64 0]
  obtain ⟨W, hW⟩ : ∃ W, w.alloc (.cells #[.int .i64 0] 3) = W := ⟨_, rfl⟩
  rw [hW] at hb0 hB0 ⊢
  clear hW
  refine ⟨trivial, (callsIn_wide.2 (N1.out _ (H1.out.later hb0))).mono ?_⟩
  rintro e w1 ⟨b, rfl, hB, hle, b1⟩
  have bb1 := below_on hb0 b1
  have C0 := hB0.later b1
  have c0 := C0.cell (i := 0) rfl
  have c0f := C0.free 0
  clear N1 H1 hB0
  gi_wp2_with fail
  refine wpIn_rangeFunc_ownF rfl (by omega) (gf := 40) (lb := #[.pointer (some ⟨b, 0, none⟩)]) rfl trivial enters_each (SQ.out b _ w1 hB) (fun _ _ => trivial) (fun _ _ _ _ _ _ _ _ => trivial) (Below.refl _ _) (fun _ => rfl)
    (fun pre W => (W.cell? ⟨w.heap.size, 0, none⟩ = some (.int .i64 (topOf f pre)) ∧ W.frozen? ⟨w.heap.size, 0, none⟩ = false) ∧ Below w.heap.size w W)
    (fun _ _ _ => False) ?hI (fun _ _ _ _ _ h _ _ => h) ⟨⟨c0, c0f⟩, bb1⟩
    (fun x => { tmps := #[.slice A l.length c, undef, .int .i64 0, .pointer (some ⟨w.heap.size, 0, none⟩), undef, .int .i64 (f x.val), .slice A l.length c, .func (.func 40) #[] #[.pointer (some ⟨b, 0, none⟩)], .int .i64 (x.val : Int), .int .i64 (f x.val), undef, undef, undef, undef], defers := [] }) ?assign ?body ?done ?stop
  case hI => exact OwnFrom.and (Own.from (fun s A B row hs hg hr => ⟨cell_kept hs.1 hg hr, (frozen_kept hs.1 hg hr).trans hs.2⟩) _) (ownFrom_below (Nat.le_refl _) bb1.size)
  case assign =>
    intro l' x W K hK
    unfold tellN
    gi_wp2
    exact hK
  case body =>
    rintro l' pre x W ⟨⟨hk, hkf⟩, hB⟩ _
    have hs := topOf_snoc f pre x
    by_cases hlt : topOf f pre < f x.val
    · rw [if_pos hlt] at hs
      have HS := Lib.hid hs
      clear hs
      gi_wp2
      refine ⟨KeepsOthers.setCell _ _ _, trivial, ⟨?_, by rw [World.frozen?_setCell]; exact hkf⟩, hB.setCell (p := ⟨w.heap.size, 0, none⟩) (Nat.le_refl _) _⟩
      rw [HS.out]
      exact World.cell?_setCell_same' _ _ _ (by rw [hk]; rfl)
    · rw [if_neg hlt] at hs
      have hle2 : f x.val ≤ topOf f pre := by omega
      have HS := Lib.hid hs
      clear hs
      gi_wp2
      refine ⟨KeepsOthers.setCell _ _ _, trivial, ⟨?_, by rw [World.frozen?_setCell]; exact hkf⟩, hB.setCell (p := ⟨w.heap.size, 0, none⟩) (Nat.le_refl _) _⟩
      rw [HS.out]
      exact World.cell?_setCell_same' _ _ _ (by rw [hk]; rfl)
  case done =>
    rintro D ys W hD hys ⟨⟨hk, hkf⟩, hB⟩ hK
    rw [hys] at hk
    have hz := hB.size
    have hz1 := bb1.size
    gi_wp2
    refine ⟨by simp, .inl ⟨_, _, rfl, run_takeDeferred hK, ?_⟩⟩
    exact ⟨_, results_tmp rfl _ _ _, rfl, hB.trans (belowK_b (w := w) (Nat.le_refl _) W D _ _ (by omega) hK rfl rfl)⟩
  case stop =>
    rintro D c pre W _ _ h _
    exact h.elim

end Go.Proofs.Ytjdiopoikppifaa
