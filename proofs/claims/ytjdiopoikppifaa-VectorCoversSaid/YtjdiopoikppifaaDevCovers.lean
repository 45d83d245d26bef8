/-
  What vector's Covers answers, by a loop over All; and Compare by it.
-/
import Derived.Test.YtjdiopoikppifaaDevTop
namespace Go.Proofs.Ytjdiopoikppifaa
open Go.RowKit Go.Shelf
attribute [local go_sem] Oper.semAt_some

theorem Blk.setRow {w : World} {g : Nat} {t : TypeId} {old : Array Value} (h : Blk w g t old) (cs : Array Value) : Blk (w.setRow g cs) g t cs := setRow_heap _ _ _ _ _ _ h

theorem cov_comes {f g : Nat → Int} (hf : ∀ n, 0 ≤ f n) (h : ∀ i ∈ comes node g 64, g i.val ≤ f i.val) : Ve.cov f g = true := by
  rw [Ve.cov_iff]
  intro n hn
  by_cases hp : 0 < g n
  · have := h ⟨n, hn⟩ ((comes_mem g ⟨n, hn⟩ 64 (Nat.le_refl _)).2 ⟨hn, hp⟩)
    exact this
  · have := hf n
    omega

set_option maxRecDepth 100000 in
set_option maxHeartbeats 3200000 in
theorem covers_any (A B : Option Addr) (c d : Nat) (l r : List (Int × Int)) (w : World) (h1 : OneL w A c l) (h2 : OneL w B d r) :
    Calls Try.prog 20 #[.slice A l.length c, .slice B r.length d] w (Says (.bool (Ve.cov (Ve.cnt l) (Ve.cnt r))) w) := by
  have n1 := fun wx (hx : OneL wx A c l) => countsOf_any A c l wx h1.len hx.stamps
  have n2 := fun wx (hx : OneL wx B d r) => All_any B d r wx hx
  have hcv := fun h => cov_comes (g := Ve.cnt r) (Ve.cnt_nonneg l) h
  have hno := fun (i : Fin 64) (h : Ve.cnt l i.val < Ve.cnt r i.val) => Ve.cov_no i.val i.isLt h
  obtain ⟨f, hf⟩ : ∃ f, Ve.cnt l = f := ⟨_, rfl⟩
  obtain ⟨g, hg⟩ : ∃ g, Ve.cnt r = g := ⟨_, rfl⟩
  rw [hf] at n1 hcv hno ⊢
  rw [hg] at n2 hcv hno ⊢
  obtain ⟨V, hV⟩ : ∃ V, Ve.cov f g = V := ⟨_, rfl⟩
  rw [hV] at hcv hno ⊢
  obtain ⟨J, hJ⟩ : ∃ J, comes node g 64 = J := ⟨_, rfl⟩
  have hsq := fun b t w hB => walk_stops g b t (fun _ _ => True) w hB
  rw [hJ] at hsq hcv
  have SQ := Lib.hid hsq
  have CV := Lib.hid hcv
  have NO := Lib.hid hno
  have N1 := Lib.hid n1
  have N2 := Lib.hid n2
  have H1 := Lib.hid h1
  have H2 := Lib.hid h2
  clear n1 n2 h1 h2 hf hg hJ hV hsq hcv hno
  refine (callsIn_wide (n := 3)).1 ?_
  refine callsIn_of_wp_marks Try.func20 rfl trivial ?_ rfl
  simp only [Try.ntmps20, List.size_toArray, List.length_cons, List.length_nil, Nat.reduceAdd, Nat.reduceSub, Array.replicate_succ, Array.replicate_zero, List.push_toArray, List.append_toArray, List.nil_append, List.cons_append]
  gi_wp2_with fail
  have hb0 := below_new (Below.refl w.heap.size w) (.cells #[.bool false] 4)
  have hB0 := Blk.new w 4 #[.bool false]
  obtain ⟨W, hW⟩ : ∃ W, w.alloc (.cells #[.bool false] 4) = W := ⟨_, rfl⟩
  rw [hW] at hb0 hB0 ⊢
  clear hW
  refine ⟨trivial, (callsIn_wide.2 (N1.out _ (H1.out.later hb0))).mono ?_⟩
  rintro e w1 ⟨rfl, b1⟩
  have bb1 := below_on hb0 b1
  have C0 := hB0.later b1
  have hB1 := Blk.new w1 46 (Ve.arr fun _ => 0)
  rw [Ve.arr_zero] at hB1
  gi_wp2_with (refine in_store_row rfl 46 _ _ rfl w1.heap.size _ rfl rfl 46 _ hB1 (by rw [Ve.arr_size]; exact infoC) (by rw [Ve.arr_size]; rfl) (one_arr _) ?_)
  have hB2 := hB1.setRow (Ve.arr f)
  have b2 := below_setRow (below_new (Below.refl w1.heap.size w1) (.cells (Ve.arr fun _ => 0) 46)) (Nat.le_refl _) (Ve.arr f)
  rw [← Ve.arr_zero] at hB2 ⊢
  obtain ⟨W2, hW2⟩ : ∃ W2, (w1.alloc (.cells (Ve.arr fun _ => 0) 46)).setRow w1.heap.size (Ve.arr f) = W2 := ⟨_, rfl⟩
  rw [hW2] at hB2 b2 ⊢
  clear hW2 hB1
  have bb2 := below_on bb1 b2
  refine ⟨trivial, (callsIn_wide.2 (N2.out _ (H2.out.later bb2))).mono ?_⟩
  rintro e w3 ⟨b, rfl, hB, hle, b3⟩
  have bb3 := below_on bb2 b3
  have z3 := bb3.size
  have D0 := (C0.later b2).later b3
  have D2 := hB2.later b3
  have HD0 := Lib.hid D0
  have HD2 := Lib.hid D2
  clear C0 hB2 N1 N2 H1 H2 D0 D2 hB0
  gi_wp2_with fail
  refine wpIn_rangeFunc_ownF rfl (by omega) (gf := 40) (lb := #[.pointer (some ⟨b, 0, none⟩)]) rfl trivial enters_each (SQ.out b _ w3 hB) (fun _ _ => trivial) (fun _ _ _ _ _ _ _ _ => trivial) (Below.refl _ _) (fun _ => rfl)
    (fun pre W => (∀ i ∈ pre, g i.val ≤ f i.val) ∧ Below w3.heap.size w3 W)
    (fun c' pre W => (c' = .ret ∧ V = false ∧ W.cell? ⟨w.heap.size, 0, none⟩ = some (.bool false)) ∧ Below w.heap.size w W) ?hI ?hIx ⟨(fun _ h => by cases h), Below.refl _ _⟩
    (fun x => { tmps := #[.slice A l.length c, .slice B r.length d, undef, undef, .pointer (some ⟨w.heap.size, 0, none⟩), .pointer (some ⟨w1.heap.size, 0, none⟩), .int .i64 (x.val : Int), .int .i64 (g x.val), .slice A l.length c, .agg (Ve.arr f), .slice B r.length d, .func (.func 40) #[] #[.pointer (some ⟨b, 0, none⟩)], .int .i64 (x.val : Int), .int .i64 (g x.val), undef, undef, undef, undef, undef], defers := [] }) ?assign ?body ?done ?stop
  case hI => exact OwnFrom.and (Own.from (fun s A B row hs hg hr => hs) _) (ownFrom_below (Nat.le_refl _) (Nat.le_refl _))
  case hIx => exact fun c' => OwnFrom.and (Own.from (fun s A B row hs hg hr => ⟨hs.1, hs.2.1, cell_kept hs.2.2 hg hr⟩) _) (ownFrom_below (Nat.le_refl _) (by omega))
  case assign =>
    intro l' x W K hK
    unfold tellN
    gi_wp2
    exact hK
  case body =>
    rintro l' pre x W ⟨hall, hBw⟩ _
    have r0 := (HD0.out.later hBw).cell (i := 0) rfl
    have r0f := (HD0.out.later hBw).free 0
    have r2 := (HD2.out.later hBw).arr_cell x.val x.isLt
    have hbw := below_on bb3 hBw
    have hx0 : (0 : Int) ≤ (x.val : Int) := by omega
    have hx1 : (x.val : Int) < 64 := by have := x.isLt; omega
    by_cases hlt : f x.val < g x.val
    · have hV := NO.out x hlt
      have HV := Lib.hid hV
      clear hV hall
      gi_wp2
      exact ⟨KeepsOthers.setCell _ _ _, ⟨rfl, HV.out, World.cell?_setCell_same' _ _ _ (by rw [r0]; rfl)⟩, hbw.setCell (p := ⟨w.heap.size, 0, none⟩) (Nat.le_refl _) _⟩
    · have hle2 : g x.val ≤ f x.val := by omega
      have HA := Lib.hid hall
      clear hall
      gi_wp2
      refine ⟨KeepsOthers.refl _, trivial, ?_, hBw⟩
      intro i hi
      rw [List.mem_append, List.mem_singleton] at hi
      rcases hi with hi | rfl
      · exact HA.out i hi
      · exact hle2
  case done =>
    rintro D ys W hD hys ⟨hall, hBw⟩ hK
    rw [hys] at hall
    have hV := CV.out hall
    have r0 := (HD0.out.later hBw).cell (i := 0) rfl
    have r0f := (HD0.out.later hBw).free 0
    have hbw := below_on bb3 hBw
    have hz := hBw.size
    have hend : ∀ v, (W.setCell ⟨w.heap.size, 0, none⟩ v).cell? ⟨w.heap.size, 0, none⟩ = some v := fun v => World.cell?_setCell_same' _ _ _ (by rw [r0]; rfl)
    have HE := Lib.hid hend
    have HV := Lib.hid hV
    clear hend hall hys hV
    gi_wp2
    have hK' := (KeepsOthers.setCell W ⟨w.heap.size, 0, none⟩ (.bool true)).same D _ hK rfl
    refine ⟨by simp, .inl ⟨_, _, rfl, run_takeDeferred hK', ?_⟩⟩
    have hc5 := cell_kept (HE.out (.bool true)) (grownBy_putObj' _ D (.deferred none)) (fun r e => by cases e; exact ⟨_, hK', rfl⟩)
    refine ⟨.bool true, ?_, by rw [HV.out], (hbw.setCell (p := ⟨w.heap.size, 0, none⟩) (Nat.le_refl _) _).trans (belowK_b (w := w) (Nat.le_refl _) _ D _ _ (by omega) hK' rfl rfl)⟩
    simp [results, Try.f20, go_sem, hc5]
  case stop =>
    rintro D c' pre W hD _ ⟨⟨rfl, hV, hr⟩, hBw⟩ hK
    have hz := hBw.size
    have HV := Lib.hid hV
    clear hV
    gi_wp2
    refine ⟨by simp, .inl ⟨_, _, rfl, run_takeDeferred hK, ?_⟩⟩
    have hc5 := cell_kept hr (grownBy_putObj' _ D (.deferred none)) (fun r e => by cases e; exact ⟨_, hK, rfl⟩)
    refine ⟨.bool false, ?_, by rw [HV.out], hBw.trans (belowK_b (w := w) (Nat.le_refl _) W D _ _ (by omega) hK rfl rfl)⟩
    simp [results, Try.f20, go_sem, hc5]

end Go.Proofs.Ytjdiopoikppifaa
