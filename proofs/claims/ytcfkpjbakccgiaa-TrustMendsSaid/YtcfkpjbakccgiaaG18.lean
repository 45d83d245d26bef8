/-
  What vector's All answers: a function over the counts of the list, which were read when it was made.
  What vector's Greatest answers: the greatest count, by a loop over All.
  What vector's Covers answers, by a loop over All; and Compare by it.
  What the counts' vector answers: the vector of those above 0, in memory of its own.
-/
import Derived.Test.YtcfkpjbakccgiaaG17
namespace Go.Proofs.Ytcfkpjbakccgiaa
open Go.RowKit Go.Shelf

set_option maxRecDepth 100000 in
set_option maxHeartbeats 1600000 in
theorem all_any (f : Nat → Int) (w : World) :
    Calls Try.prog 89 #[.agg (Ve.arr f)] w fun e w' => e = .returned (.func (.func 94) #[] #[.pointer (some ⟨w.heap.size, 0, none⟩)]) ∧ w' = w.alloc (.cells (Ve.arr f) 92) := by
  go_enter Try.func89, Try.ntmps89
  go_wp2
  go_ret
  exact ⟨rfl, rfl⟩

/-- A function over 64 counts is answered; the counts lie in a new block. -/
def Walker (f : Nat → Int) (w : World) (e : Ending) (w1 : World) : Prop :=
  ∃ b, e = .returned (.func (.func 94) #[] #[.pointer (some ⟨b, 0, none⟩)]) ∧ Blk w1 b 92 (Ve.arr f) ∧ w.heap.size ≤ b ∧ Below w.heap.size w w1
theorem all_walker (f : Nat → Int) (w : World) : Calls Try.prog 89 #[.agg (Ve.arr f)] w (Walker f w) := by
  refine (all_any f w).mono ?_
  rintro e w1 ⟨rfl, rfl⟩
  exact ⟨w.heap.size, rfl, Blk.new _ _ _, Nat.le_refl _, below_new (Below.refl _ _) _⟩

set_option maxHeartbeats 800000 in
theorem All_any (A : Option Addr) (c : Nat) (l : List (Int × Int)) (w : World) (h : OneL w A c l) :
    Calls Try.prog 76 #[.slice A l.length c] w (Walker (Ve.cnt l) w) := by
  have H := Lib.hid (countsOf_any A c l w h.len h.stamps)
  clear h
  go_enter Try.func76, Try.ntmps76
  go_wp2_with fail
  refine H.out.mono ?_
  rintro e w1 ⟨rfl, b1⟩
  clear H
  go_wp2_with fail
  refine (all_walker _ _).mono ?_
  rintro e w2 ⟨b, rfl, hB, hle, b2⟩
  go_wp2
  go_ret
  exact ⟨b, rfl, hB, Nat.le_trans b1.size hle, below_on b1 b2⟩

theorem comes_ofTo (f : Nat → Int) : ∀ k, comes (fun k => (f k, (k : Int))) f k = Ve.ofTo f k
  | 0 => rfl
  | k + 1 => by rw [comes, Ve.ofTo, comes_ofTo f k]
theorem comes_ofL (f : Nat → Int) : comes (fun k => (f k, (k : Int))) f 64 = Ve.ofL f := by unfold Ve.ofL; exact comes_ofTo f 64
theorem comes_pre {α : Type} (g : Nat → α) (f : Nat → Int) (k : Nat) : ∀ m, k ≤ m → comes g f k <+: comes g f m
  | 0, h => by rw [Nat.le_zero.1 h]; exact List.prefix_rfl
  | m + 1, h => by
    rcases Nat.lt_or_ge m k with h1 | h1
    · rw [show k = m + 1 from by omega]; exact List.prefix_rfl
    · exact (comes_pre g f k m h1).trans ⟨_, rfl⟩

/-- The loop over such a function: whatever a round keeps. -/
theorem each_stops {α : Type} (told : α → Array Value) (g : Nat → α) (f : Nat → Int) (ht : ∀ k, k < 64 → told (g k) = #[.int .i64 (k : Int), .int .i64 (f k)]) (F : Fence) (n : Nat) (hf : F.fn 94) (hro : F.round = none) (hn : 1 ≤ n)
    (b : Nat) (t : TypeId) (Kp : World → World → Prop) (w : World) (hB : Blk w b t (Ve.arr f)) :
    SeqStopsK F n Try.prog 94 #[.pointer (some ⟨b, 0, none⟩)] told Kp (· = comes g f 64) (fun pre => ∃ k, k ≤ 64 ∧ pre = comes g f k) 64 w :=
  fun l J Jx W hW _ _ hY h0 => each1_in told g f ht F n hf hro hn l b t Kp J Jx hY W (hB.later hW) h0

theorem enters_each : ∀ args w, (callFunc 94 args).run Try.prog w = .ok (.enter 94 args) w :=
  enters_of Try.func94 (by kernel_rfl) rfl

set_option maxHeartbeats 800000 in
theorem allSpec : AllSpec := by
  unfold AllSpec
  intro A c l w0 w h hb
  refine (All_any A c l w (h.later hb)).mono ?_
  rintro e w1 ⟨b, rfl, hB, _, b1⟩
  refine ⟨_, _, rfl, b1, enters_each, ?_⟩
  have hs := each_stops told (fun k => (Ve.cnt l k, (k : Int))) (Ve.cnt l) (fun k _ => rfl) Fence.wide 2 trivial rfl (by omega) b _ (Keep w0.heap.size w.heap.size w1.heap.size) w1 hB
  intro l J Jx W hW hJ hJx hY h0
  refine (hs l J Jx W hW hJ hJx hY h0).mono ?_
  rintro e W' ⟨hv, ⟨ys, hy, hys⟩ | ⟨pre, ⟨k, hk, hp⟩, hpre⟩⟩
  · exact ⟨hv, .inl ⟨ys, hy.trans (comes_ofL _), hys⟩⟩
  · refine ⟨hv, .inr ⟨pre, ?_, hpre⟩⟩
    rw [hp, ← comes_ofL]
    exact comes_pre _ _ _ _ hk

end Go.Proofs.Ytcfkpjbakccgiaa
namespace Go.Proofs.Ytcfkpjbakccgiaa
open Go.RowKit Go.Shelf
attribute [local go_sem] Oper.semAt_some

/-- Node k, as one of 64. -/
def node (k : Nat) : Fin 64 := ⟨k % 64, Nat.mod_lt _ (by omega)⟩
theorem node_val {k : Nat} (h : k < 64) : (node k).val = k := Nat.mod_eq_of_lt h
/-- What a round is told: the node and its count. -/
def tellN (f : Nat → Int) (i : Fin 64) : Array Value := #[.int .i64 (i.val : Int), .int .i64 (f i.val)]
theorem tellN_node (f : Nat → Int) (k : Nat) (h : k < 64) : tellN f (node k) = #[.int .i64 (k : Int), .int .i64 (f k)] := by unfold tellN; rw [node_val h]
theorem comes_mem (f : Nat → Int) (i : Fin 64) : ∀ k, k ≤ 64 → (i ∈ comes node f k ↔ i.val < k ∧ 0 < f i.val)
  | 0, _ => by simp [comes]
  | k + 1, h => by
    have ih := comes_mem f i k (by omega)
    have hv := node_val (k := k) (by omega)
    rw [comes, List.mem_append, ih]
    constructor
    · rintro (⟨h1, h2⟩ | h1)
      · exact ⟨by omega, h2⟩
      · split at h1
        · rename_i hp
          rw [List.mem_singleton] at h1
          rw [h1, hv]
          exact ⟨by omega, hp⟩
        · cases h1
    · rintro ⟨h1, h2⟩
      rcases Nat.lt_or_ge i.val k with h3 | h3
      · exact .inl ⟨h3, h2⟩
      · have h4 : i.val = k := by omega
        rw [h4] at h2
        rw [if_pos h2]
        exact .inr (List.mem_singleton.2 (Fin.ext (by rw [hv]; exact h4)))

/-- The loop over a walker, with nodes as the rounds' things. -/
theorem walk_stops (f : Nat → Int) (b : Nat) (t : TypeId) (Kp : World → World → Prop) (w : World) (hB : Blk w b t (Ve.arr f)) :
    SeqStopsK Fence.wide 2 Try.prog 94 #[.pointer (some ⟨b, 0, none⟩)] (tellN f) Kp (· = comes node f 64) (fun pre => ∃ k, k ≤ 64 ∧ pre = comes node f k) 64 w :=
  each_stops (tellN f) node f (tellN_node f) Fence.wide 2 trivial rfl (by omega) b t Kp w hB

def topOf (f : Nat → Int) (pre : List (Fin 64)) : Int := pre.foldl (fun m i => if m < f i.val then f i.val else m) 0
theorem topOf_snoc (f : Nat → Int) (pre : List (Fin 64)) (i : Fin 64) : topOf f (pre ++ [i]) = if topOf f pre < f i.val then f i.val else topOf f pre := by
  unfold topOf
  rw [List.foldl_append]
  rfl
theorem topTo_nonneg (f : Nat → Int) : ∀ k, 0 ≤ Ve.topTo f k
  | 0 => Int.le_refl _
  | k + 1 => by
    have := topTo_nonneg f k
    unfold Ve.topTo
    split <;> omega
theorem topOf_comes (f : Nat → Int) : ∀ k, k ≤ 64 → topOf f (comes node f k) = Ve.topTo f k
  | 0, _ => rfl
  | k + 1, h => by
    have ih := topOf_comes f k (by omega)
    have hn := topTo_nonneg f k
    have hv := node_val (k := k) (by omega)
    by_cases hf : 0 < f k
    · rw [comes_yes _ _ _ hf, topOf_snoc, ih, hv]
      rfl
    · rw [comes_no _ _ _ hf, ih, Ve.topTo, if_neg (by omega)]
theorem topOf_all (f : Nat → Int) : topOf f (comes node f 64) = Ve.top f := topOf_comes f 64 (Nat.le_refl _)

end Go.Proofs.Ytcfkpjbakccgiaa
namespace Go.Proofs.Ytcfkpjbakccgiaa
open Go.RowKit Go.Shelf
attribute [local go_sem] Oper.semAt_some

theorem Blk.setRow {w : World} {g : Nat} {t : TypeId} {old : Array Value} (h : Blk w g t old) (cs : Array Value) : Blk (w.setRow g cs) g t cs := setRow_heap _ _ _ _ _ _ h

theorem cov_comes {f g : Nat → Int} (hf : ∀ n, 0 ≤ f n) (h : ∀ i ∈ comes node g 64, g i.val ≤ f i.val) : Ve.cov f g = true := by
  rw [Ve.cov_iff]
  intro n hn
  by_cases hp : 0 < g n
  · have := h ⟨n, hn⟩ ((comes_mem g ⟨n, hn⟩ 64 (Nat.le_refl _)).2 ⟨hn, hp⟩)
    exact this
  · have := hf n
    omega

set_option maxRecDepth 100000 in
set_option maxHeartbeats 3200000 in
theorem covers_any (A B : Option Addr) (c d : Nat) (l r : List (Int × Int)) (w : World) (h1 : OneL w A c l) (h2 : OneL w B d r) :
    Calls Try.prog 53 #[.slice A l.length c, .slice B r.length d] w (Says (.bool (Ve.cov (Ve.cnt l) (Ve.cnt r))) w) := by
  have n1 := fun wx (hx : OneL wx A c l) => countsOf_any A c l wx h1.len hx.stamps
  have n2 := fun wx (hx : OneL wx B d r) => All_any B d r wx hx
  have hcv := fun h => cov_comes (g := Ve.cnt r) (Ve.cnt_nonneg l) h
  have hno := fun (i : Fin 64) (h : Ve.cnt l i.val < Ve.cnt r i.val) => Ve.cov_no i.val i.isLt h
  obtain ⟨f, hf⟩ : ∃ f, Ve.cnt l = f := ⟨_, rfl⟩
  obtain ⟨g, hg⟩ : ∃ g, Ve.cnt r = g := ⟨_, rfl⟩
  rw [hf] at n1 hcv hno ⊢
  rw [hg] at n2 hcv hno ⊢
  obtain ⟨V, hV⟩ : ∃ V, Ve.cov f g = V := ⟨_, rfl⟩
  rw [hV] at hcv hno ⊢
  obtain ⟨J, hJ⟩ : ∃ J, comes node g 64 = J := ⟨_, rfl⟩
  have hsq := fun b t w hB => walk_stops g b t (fun _ _ => True) w hB
  rw [hJ] at hsq hcv
  have SQ := Lib.hid hsq
  have CV := Lib.hid hcv
  have NO := Lib.hid hno
  have N1 := Lib.hid n1
  have N2 := Lib.hid n2
  have H1 := Lib.hid h1
  have H2 := Lib.hid h2
  clear n1 n2 h1 h2 hf hg hJ hV hsq hcv hno
  refine (callsIn_wide (n := 3)).1 ?_
  refine callsIn_of_wp_marks Try.func53 rfl trivial ?_ rfl
  simp only [Try.ntmps53, List.size_toArray, List.length_cons, List.length_nil, Nat.reduceAdd, Nat.reduceSub, Array.replicate_succ, Array.replicate_zero, List.push_toArray, List.append_toArray, List.nil_append, List.cons_append]
  gi_wp2_with fail
  have hb0 := below_new (Below.refl w.heap.size w) (.cells #[.bool false] 4)
  have hB0 := Blk.new w 4 #[.bool false]
  obtain ⟨W, hW⟩ : ∃ W, w.alloc (.cells #[.bool false] 4) = W := ⟨_, rfl⟩
  rw [hW] at hb0 hB0 ⊢
  clear hW
  refine ⟨trivial, (callsIn_wide.2 (N1.out _ (H1.out.later hb0))).mono ?_⟩
  rintro e w1 ⟨rfl, b1⟩
  have bb1 := below_on hb0 b1
  have C0 := hB0.later b1
  have hB1 := Blk.new w1 92 (Ve.arr fun _ => 0)
  rw [Ve.arr_zero] at hB1
  gi_wp2_with (refine in_store_row rfl 92 _ _ rfl w1.heap.size _ rfl rfl 92 _ hB1 (by rw [Ve.arr_size]; exact infoC) (by rw [Ve.arr_size]; rfl) (one_arr _) ?_)
  have hB2 := hB1.setRow (Ve.arr f)
  have b2 := below_setRow (below_new (Below.refl w1.heap.size w1) (.cells (Ve.arr fun _ => 0) 92)) (Nat.le_refl _) (Ve.arr f)
  rw [← Ve.arr_zero] at hB2 ⊢
  obtain ⟨W2, hW2⟩ : ∃ W2, (w1.alloc (.cells (Ve.arr fun _ => 0) 92)).setRow w1.heap.size (Ve.arr f) = W2 := ⟨_, rfl⟩
  rw [hW2] at hB2 b2 ⊢
  clear hW2 hB1
  have bb2 := below_on bb1 b2
  refine ⟨trivial, (callsIn_wide.2 (N2.out _ (H2.out.later bb2))).mono ?_⟩
  rintro e w3 ⟨b, rfl, hB, hle, b3⟩
  have bb3 := below_on bb2 b3
  have z3 := bb3.size
  have D0 := (C0.later b2).later b3
  have D2 := hB2.later b3
  have HD0 := Lib.hid D0
  have HD2 := Lib.hid D2
  clear C0 hB2 N1 N2 H1 H2 D0 D2 hB0
  gi_wp2_with fail
  refine wpIn_rangeFunc_ownF rfl (by omega) (gf := 94) (lb := #[.pointer (some ⟨b, 0, none⟩)]) rfl trivial enters_each (SQ.out b _ w3 hB) (fun _ _ => trivial) (fun _ _ _ _ _ _ _ _ => trivial) (Below.refl _ _) (fun _ => rfl)
    (fun pre W => (∀ i ∈ pre, g i.val ≤ f i.val) ∧ Below w3.heap.size w3 W)
    (fun c' pre W => (c' = .ret ∧ V = false ∧ W.cell? ⟨w.heap.size, 0, none⟩ = some (.bool false)) ∧ Below w.heap.size w W) ?hI ?hIx ⟨(fun _ h => by cases h), Below.refl _ _⟩
    (fun x => { tmps := #[.slice A l.length c, .slice B r.length d, undef, undef, .pointer (some ⟨w.heap.size, 0, none⟩), .pointer (some ⟨w1.heap.size, 0, none⟩), .int .i64 (x.val : Int), .int .i64 (g x.val), .slice A l.length c, .agg (Ve.arr f), .slice B r.length d, .func (.func 94) #[] #[.pointer (some ⟨b, 0, none⟩)], .int .i64 (x.val : Int), .int .i64 (g x.val), undef, undef, undef, undef, undef], defers := [] }) ?assign ?body ?done ?stop
  case hI => exact OwnFrom.and (Own.from (fun s A B row hs hg hr => hs) _) (ownFrom_below (Nat.le_refl _) (Nat.le_refl _))
  case hIx => exact fun c' => OwnFrom.and (Own.from (fun s A B row hs hg hr => ⟨hs.1, hs.2.1, cell_kept hs.2.2 hg hr⟩) _) (ownFrom_below (Nat.le_refl _) (by omega))
  case assign =>
    intro l' x W K hK
    unfold tellN
    gi_wp2
    exact hK
  case body =>
    rintro l' pre x W ⟨hall, hBw⟩ _
    have r0 := (HD0.out.later hBw).cell (i := 0) rfl
    have r0f := (HD0.out.later hBw).free 0
    have r2 := (HD2.out.later hBw).arr_cell x.val x.isLt
    have hbw := below_on bb3 hBw
    have hx0 : (0 : Int) ≤ (x.val : Int) := by omega
    have hx1 : (x.val : Int) < 64 := by have := x.isLt; omega
    by_cases hlt : f x.val < g x.val
    · have hV := NO.out x hlt
      have HV := Lib.hid hV
      clear hV hall
      gi_wp2
      exact ⟨KeepsOthers.setCell _ _ _, ⟨rfl, HV.out, World.cell?_setCell_same' _ _ _ (by rw [r0]; rfl)⟩, hbw.setCell (p := ⟨w.heap.size, 0, none⟩) (Nat.le_refl _) _⟩
    · have hle2 : g x.val ≤ f x.val := by omega
      have HA := Lib.hid hall
      clear hall
      gi_wp2
      refine ⟨KeepsOthers.refl _, trivial, ?_, hBw⟩
      intro i hi
      rw [List.mem_append, List.mem_singleton] at hi
      rcases hi with hi | rfl
      · exact HA.out i hi
      · exact hle2
  case done =>
    rintro D ys W hD hys ⟨hall, hBw⟩ hK
    rw [hys] at hall
    have hV := CV.out hall
    have r0 := (HD0.out.later hBw).cell (i := 0) rfl
    have r0f := (HD0.out.later hBw).free 0
    have hbw := below_on bb3 hBw
    have hz := hBw.size
    have hend : ∀ v, (W.setCell ⟨w.heap.size, 0, none⟩ v).cell? ⟨w.heap.size, 0, none⟩ = some v := fun v => World.cell?_setCell_same' _ _ _ (by rw [r0]; rfl)
    have HE := Lib.hid hend
    have HV := Lib.hid hV
    clear hend hall hys hV
    gi_wp2
    have hK' := (KeepsOthers.setCell W ⟨w.heap.size, 0, none⟩ (.bool true)).same D _ hK rfl
    refine ⟨by simp, .inl ⟨_, _, rfl, run_takeDeferred hK', ?_⟩⟩
    have hc5 := cell_kept (HE.out (.bool true)) (grownBy_putObj' _ D (.deferred none)) (fun r e => by cases e; exact ⟨_, hK', rfl⟩)
    refine ⟨.bool true, ?_, by rw [HV.out], (hbw.setCell (p := ⟨w.heap.size, 0, none⟩) (Nat.le_refl _) _).trans (belowK_b (w := w) (Nat.le_refl _) _ D _ _ (by omega) hK' rfl rfl)⟩
    simp [results, Try.f53, go_sem, hc5]
  case stop =>
    rintro D c' pre W hD _ ⟨⟨rfl, hV, hr⟩, hBw⟩ hK
    have hz := hBw.size
    have HV := Lib.hid hV
    clear hV
    gi_wp2
    refine ⟨by simp, .inl ⟨_, _, rfl, run_takeDeferred hK, ?_⟩⟩
    have hc5 := cell_kept hr (grownBy_putObj' _ D (.deferred none)) (fun r e => by cases e; exact ⟨_, hK, rfl⟩)
    refine ⟨.bool false, ?_, by rw [HV.out], hBw.trans (belowK_b (w := w) (Nat.le_refl _) W D _ _ (by omega) hK rfl rfl)⟩
    simp [results, Try.f53, go_sem, hc5]

end Go.Proofs.Ytcfkpjbakccgiaa
namespace Go.Proofs.Ytcfkpjbakccgiaa
open Go.RowKit Go.Shelf
attribute [local go_sem] Oper.semAt_some

/-- The stamps of nodes. -/
def stampsOf (f : Nat → Int) (pre : List (Fin 64)) : List (Int × Int) := pre.map fun i => (f i.val, (i.val : Int))
theorem stampsOf_snoc (f : Nat → Int) (pre : List (Fin 64)) (i : Fin 64) : stampsOf f (pre ++ [i]) = stampsOf f pre ++ [(f i.val, (i.val : Int))] := by unfold stampsOf; rw [List.map_append]; rfl
theorem stampsOf_len (f : Nat → Int) (pre : List (Fin 64)) : (stampsOf f pre).length = pre.length := List.length_map _
theorem stampsOf_comes (f : Nat → Int) : ∀ k, k ≤ 64 → stampsOf f (comes node f k) = Ve.ofTo f k
  | 0, _ => rfl
  | k + 1, h => by
    have ih := stampsOf_comes f k (by omega)
    have hv := node_val (k := k) (by omega)
    by_cases hf : 0 < f k
    · rw [comes_yes _ _ _ hf, stampsOf_snoc, ih, hv, Ve.ofTo, if_pos hf]
    · rw [comes_no _ _ _ hf, ih, Ve.ofTo, if_neg hf, List.append_nil]
theorem stampsOf_all (f : Nat → Int) : stampsOf f (comes node f 64) = Ve.ofL f := by unfold Ve.ofL; exact stampsOf_comes f 64 (Nat.le_refl _)

set_option maxRecDepth 100000 in
set_option maxHeartbeats 3200000 in
theorem vector_any (f : Nat → Int) (w : World) :
    Calls Try.prog 74 #[.agg (Ve.arr f)] w (Gives (Ve.ofL f) w) := by
  obtain ⟨i0, hi, hz0, hz1, hz2⟩ := info_parts infoSt
  rw [← stampsOf_all]
  obtain ⟨J, hJ⟩ : ∃ J, comes node f 64 = J := ⟨_, rfl⟩
  have hsq := fun b t w hB => walk_stops f b t (fun _ _ => True) w hB
  rw [hJ] at hsq ⊢
  have SQ := Lib.hid hsq
  clear hJ hsq
  refine (callsIn_wide (n := 3)).1 ?_
  refine callsIn_of_wp_marks Try.func74 rfl trivial ?_ rfl
  simp only [Try.ntmps74, List.size_toArray, List.length_cons, List.length_nil, Nat.reduceAdd, Nat.reduceSub, Array.replicate_succ, Array.replicate_zero, List.push_toArray, List.append_toArray, List.nil_append, List.cons_append]
  have hB0 := (Blk.new w 92 (Ve.arr f)).alloc (.cells #[.slice none 0 0] 23)
  have hB1 := Blk.new (w.alloc (.cells (Ve.arr f) 92)) 23 #[.slice none 0 0]
  rw [show (w.alloc (.cells (Ve.arr f) 92)).heap.size = w.heap.size + 1 from by simp] at hB1
  have hb1 := below_new (below_new (Below.refl w.heap.size w) (.cells (Ve.arr f) 92)) (.cells #[.slice none 0 0] 23)
  gi_wp2_with (refine in_load_row rfl 92 _ rfl w.heap.size rfl 92 _ _ hB0 Try.underlying92 rfl (by rw [Ve.arr_size]; exact infoC) ?_)
  obtain ⟨W, hW⟩ : ∃ W, (w.alloc (.cells (Ve.arr f) 92)).alloc (.cells #[.slice none 0 0] 23) = W := ⟨_, rfl⟩
  rw [hW] at hb1 hB1 ⊢
  clear hW hB0
  refine ⟨trivial, (callsIn_wide.2 (all_walker f W)).mono ?_⟩
  rintro e w1 ⟨b, rfl, hB, hle, b1⟩
  have bb1 := below_on hb1 b1
  have C1 := hB1.later b1
  have z1 := bb1.size
  clear hB1
  gi_wp2_with fail
  refine wpIn_rangeFunc_ownF rfl (by omega) (gf := 94) (lb := #[.pointer (some ⟨b, 0, none⟩)]) rfl trivial enters_each (SQ.out b _ w1 hB) (fun _ _ => trivial) (fun _ _ _ _ _ _ _ _ => trivial) (Below.refl _ _) (fun _ => rfl)
    (fun pre W => (∃ v, Boxed W (w.heap.size + 1) 23 v ∧ W.ownsRow w.heap.size 53 2 v pre.length (stCells (stampsOf f pre)) ∧ True) ∧ Below w.heap.size w W)
    (fun _ _ _ => False) ?hI (fun _ _ _ _ _ h _ _ => h) ⟨⟨.slice none 0 0, C1, ⟨rfl, .inl ⟨rfl, rfl⟩⟩, trivial⟩, bb1⟩
    (fun x => { tmps := #[.agg (Ve.arr f), .pointer (some ⟨w.heap.size, 0, none⟩), .slice none 0 0, .pointer (some ⟨w.heap.size + 1, 0, none⟩), .int .i64 (x.val : Int), .int .i64 (f x.val), .agg (Ve.arr f), .func (.func 94) #[] #[.pointer (some ⟨b, 0, none⟩)], .int .i64 (x.val : Int), .int .i64 (f x.val), undef, undef, undef, undef, undef, undef, undef], defers := [] }) ?assign ?body ?done ?stop
  case hI => exact OwnFrom.and (Own.from (holdsRow_own w.heap.size (w.heap.size + 1) 23 53 2 (fun pre => pre.length) (fun pre => stCells (stampsOf f pre)) (fun _ _ => True)) _) (ownFrom_below (Nat.le_refl _) z1)
  case assign =>
    intro l' x W K hK
    unfold tellN
    gi_wp2
    exact hK
  case body =>
    rintro l' pre x W ⟨⟨v, hv, hrow, -⟩, hbw⟩ hlen
    have hc := hv.cell
    have hsz := hbw.size
    have HST := Lib.hid (stampsOf_snoc f pre x)
    have HLT := Lib.hid hv.lt
    gi_wp2_with (gi_at_builtin; refine wpListIn_append_own _ rfl _ _ 23 rfl w.heap.size 53 i0 (.agg #[.int .i64 0, .int .i64 0]) 2 16 Try.underlying23 hi hz0 hz1 hz2 rfl (by decide) _ pre.length (stCells (stampsOf f pre)) rfl (hrow.alloc _) ⟨W.heap.size, 0, none⟩ 1 1 (stCells [(f x.val, (x.val : Int))]) rfl rfl ?c1 (stCells_one _) ?c3 ?c4 ?c5 ?_)
    case c1 =>
      intro j u hu
      rw [show (⟨W.heap.size, 0, none⟩ : Addr).add j = ⟨W.heap.size, j, none⟩ from by simp [Addr.add, eq_comm]]
      exact (Blk.new W 53 #[.int .i64 (f x.val), .int .i64 (x.val : Int)]).cell (by simpa [stCells] using hu)
    case c3 => unfold maxLen; omega
    case c4 => omega
    case c5 => have := HLT.out; simp; omega
    intro v' w2 hown1 hg1 _
    obtain ⟨g', cap', rfl⟩ := ownsRow_succ hown1
    obtain ⟨hv1, hv2, hr2, hk2, hb2⟩ := hv.appended (by decide) hrow hsz (by omega) hown1 hg1
    have hc1 := hv1.cell
    have hf1 := hv1.frozen
    rw [← stCells_append, ← HST.out] at hr2
    have hln : pre.length + 1 = (pre ++ [x]).length := by simp
    have HR2 := Lib.hid hr2
    have HLN := Lib.hid hln
    have HV2 := Lib.hid hv2
    clear hv2 hr2 hown1 hg1 hrow hv hv1 hln
    gi_wp2
    refine ⟨hk2, trivial, ⟨_, HV2.out, ?_, trivial⟩, hbw.trans hb2⟩
    rw [← HLN.out]
    exact HR2.out
  case done =>
    rintro D ys W hD hys ⟨⟨v, hv, hrow, -⟩, hbw⟩ hK
    rw [hys, ← stampsOf_len f J] at hrow
    have hc := hv.cell
    have hz := hbw.size
    gi_wp2
    refine ⟨by simp, .inl ⟨_, _, rfl, run_takeDeferred hK, ?_⟩⟩
    exact ⟨_, results_tmp rfl _ _ _, v, rfl, ownsRow_putObj hrow _ hK rfl, hbw.trans (belowK_b (w := w) (Nat.le_refl _) W D _ _ (by omega) hK rfl rfl)⟩
  case stop =>
    rintro D c pre W _ _ h _
    exact h.elim

end Go.Proofs.Ytcfkpjbakccgiaa
