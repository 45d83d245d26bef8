/-
  What the counts' vector answers: the vector of those above 0, in memory of its own.
-/
import Derived.Test.YtjdiopoikppifaaDevCovers
namespace Go.Proofs.Ytjdiopoikppifaa
open Go.RowKit Go.Shelf
attribute [local go_sem] Oper.semAt_some

/-- The stamps of nodes. -/
def stampsOf (f : Nat → Int) (pre : List (Fin 64)) : List (Int × Int) := pre.map fun i => (f i.val, (i.val : Int))
theorem stampsOf_snoc (f : Nat → Int) (pre : List (Fin 64)) (i : Fin 64) : stampsOf f (pre ++ [i]) = stampsOf f pre ++ [(f i.val, (i.val : Int))] := by unfold stampsOf; rw [List.map_append]; rfl
theorem stampsOf_len (f : Nat → Int) (pre : List (Fin 64)) : (stampsOf f pre).length = pre.length := List.length_map _
theorem stampsOf_comes (f : Nat → Int) : ∀ k, k ≤ 64 → stampsOf f (comes node f k) = Ve.ofTo f k
  | 0, _ => rfl
  | k + 1, h => by
    have ih := stampsOf_comes f k (by omega)
    have hv := node_val (k := k) (by omega)
    by_cases hf : 0 < f k
    · rw [comes_yes _ _ _ hf, stampsOf_snoc, ih, hv, Ve.ofTo, if_pos hf]
    · rw [comes_no _ _ _ hf, ih, Ve.ofTo, if_neg hf, List.append_nil]
theorem stampsOf_all (f : Nat → Int) : stampsOf f (comes node f 64) = Ve.ofL f := by unfold Ve.ofL; exact stampsOf_comes f 64 (Nat.le_refl _)

set_option maxRecDepth 100000 in
set_option maxHeartbeats 3200000 in
theorem vector_any (f : Nat → Int) (w : World) :
    Calls Try.prog 36 #[.agg (Ve.arr f)] w (Gives (Ve.ofL f) w) := by
  obtain ⟨i0, hi, hz0, hz1, hz2⟩ := info_parts infoSt
  rw [← stampsOf_all]
  obtain ⟨J, hJ⟩ : ∃ J, comes node f 64 = J := ⟨_, rfl⟩
  have hsq := fun b t w hB => walk_stops f b t (fun _ _ => True) w hB
  rw [hJ] at hsq ⊢
  have SQ := Lib.hid hsq
  clear hJ hsq
  refine (callsIn_wide (n := 3)).1 ?_
  refine callsIn_of_wp_marks Try.func36 rfl trivial ?_ rfl
  simp only [Try.ntmps36, List.size_toArray, List.length_cons, List.length_nil, Nat.reduceAdd, Nat.reduceSub, Array.replicate_succ, Array.replicate_zero, List.push_toArray, List.append_toArray, List.nil_append, List.cons_append]
  have hB0 := (Blk.new w 46 (Ve.arr f)).alloc (.cells #[.slice none 0 0] 22)
  have hB1 := Blk.new (w.alloc (.cells (Ve.arr f) 46)) 22 #[.slice none 0 0]
  rw [show (w.alloc (.cells (Ve.arr f) 46)).heap.size = w.heap.size + 1 from by simp] at hB1
  have hb1 := below_new (below_new (Below.refl w.heap.size w) (.cells (Ve.arr f) 46)) (.cells #[.slice none 0 0] 22)
  gi_wp2_with (refine in_load_row rfl 46 _ rfl w.heap.size rfl 46 _ _ hB0 Try.underlying46 rfl (by rw [Ve.arr_size]; exact infoC) ?_)
  obtain ⟨W, hW⟩ : ∃ W, (w.alloc (.cells (Ve.arr f) 46)).alloc (.cells #[.slice none 0 0] 22) = W := ⟨_, rfl⟩
  rw [hW] at hb1 hB1 ⊢
  clear hW hB0
  refine ⟨trivial, (callsIn_wide.2 (all_walker f W)).mono ?_⟩
  rintro e w1 ⟨b, rfl, hB, hle, b1⟩
  have bb1 := below_on hb1 b1
  have C1 := hB1.later b1
  have z1 := bb1.size
  clear hB1
  gi_wp2_with fail
  refine wpIn_rangeFunc_ownF rfl (by omega) (gf := 40) (lb := #[.pointer (some ⟨b, 0, none⟩)]) rfl trivial enters_each (SQ.out b _ w1 hB) (fun _ _ => trivial) (fun _ _ _ _ _ _ _ _ => trivial) (Below.refl _ _) (fun _ => rfl)
    (fun pre W => (∃ v, Boxed W (w.heap.size + 1) 22 v ∧ W.ownsRow w.heap.size 24 2 v pre.length (stCells (stampsOf f pre)) ∧ True) ∧ Below w.heap.size w W)
    (fun _ _ _ => False) ?hI (fun _ _ _ _ _ h _ _ => h) ⟨⟨.slice none 0 0, C1, ⟨rfl, .inl ⟨rfl, rfl⟩⟩, trivial⟩, bb1⟩
    (fun x => { tmps := #[.agg (Ve.arr f), .pointer (some ⟨w.heap.size, 0, none⟩), .slice none 0 0, .pointer (some ⟨w.heap.size + 1, 0, none⟩), .int .i64 (x.val : Int), .int .i64 (f x.val), .agg (Ve.arr f), .func (.func 40) #[] #[.pointer (some ⟨b, 0, none⟩)], .int .i64 (x.val : Int), .int .i64 (f x.val), undef, undef, undef, undef, undef, undef, undef], defers := [] }) ?assign ?body ?done ?stop
  case hI => exact OwnFrom.and (Own.from (holdsRow_own w.heap.size (w.heap.size + 1) 22 24 2 (fun pre => pre.length) (fun pre => stCells (stampsOf f pre)) (fun _ _ => True)) _) (ownFrom_below (Nat.le_refl _) z1)
  case assign =>
    intro l' x W K hK
    unfold tellN
    gi_wp2
    exact hK
  case body =>
    rintro l' pre x W ⟨⟨v, hv, hrow, -⟩, hbw⟩ hlen
    have hc := hv.cell
    have hsz := hbw.size
    have HST := Lib.hid (stampsOf_snoc f pre x)
    have HLT := Lib.hid hv.lt
    gi_wp2_with (gi_at_builtin; refine wpListIn_append_own _ rfl _ _ 22 rfl w.heap.size 24 i0 (.agg #[.int .i64 0, .int .i64 0]) 2 16 Try.underlying22 hi hz0 hz1 hz2 rfl (by decide) _ pre.length (stCells (stampsOf f pre)) rfl (hrow.alloc _) ⟨W.heap.size, 0, none⟩ 1 1 (stCells [(f x.val, (x.val : Int))]) rfl rfl ?c1 (stCells_one _) ?c3 ?c4 ?c5 ?_)
    case c1 =>
      intro j u hu
      rw [show (⟨W.heap.size, 0, none⟩ : Addr).add j = ⟨W.heap.size, j, none⟩ from by simp [Addr.add, eq_comm]]
      exact (Blk.new W 24 #[.int .i64 (f x.val), .int .i64 (x.val : Int)]).cell (by simpa [stCells] using hu)
    case c3 => unfold maxLen; omega
    case c4 => omega
    case c5 => have := HLT.out; simp; omega
    intro v' w2 hown1 hg1 _
    obtain ⟨g', cap', rfl⟩ := ownsRow_succ hown1
    obtain ⟨hv1, hv2, hr2, hk2, hb2⟩ := hv.appended (by decide) hrow hsz (by omega) hown1 hg1
    have hc1 := hv1.cell
    have hf1 := hv1.frozen
    rw [← stCells_append, ← HST.out] at hr2
    have hln : pre.length + 1 = (pre ++ [x]).length := by simp
    have HR2 := Lib.hid hr2
    have HLN := Lib.hid hln
    have HV2 := Lib.hid hv2
    clear hv2 hr2 hown1 hg1 hrow hv hv1 hln
    gi_wp2
    refine ⟨hk2, trivial, ⟨_, HV2.out, ?_, trivial⟩, hbw.trans hb2⟩
    rw [← HLN.out]
    exact HR2.out
  case done =>
    rintro D ys W hD hys ⟨⟨v, hv, hrow, -⟩, hbw⟩ hK
    rw [hys, ← stampsOf_len f J] at hrow
    have hc := hv.cell
    have hz := hbw.size
    gi_wp2
    refine ⟨by simp, .inl ⟨_, _, rfl, run_takeDeferred hK, ?_⟩⟩
    exact ⟨_, results_tmp rfl _ _ _, v, rfl, ownsRow_putObj hrow _ hK rfl, hbw.trans (belowK_b (w := w) (Nat.le_refl _) W D _ _ (by omega) hK rfl rfl)⟩
  case stop =>
    rintro D c pre W _ _ h _
    exact h.elim

end Go.Proofs.Ytjdiopoikppifaa
