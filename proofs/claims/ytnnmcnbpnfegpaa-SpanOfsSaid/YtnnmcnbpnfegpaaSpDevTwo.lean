/-
  What span's Size, Of, Meet, Less, Covers and Touch answer.
-/
import Derived.Test.YtnnmcnbpnfegpaaSpDevAll
namespace Go.Proofs.Ytnnmcnbpnfegpaa
open Go.RowKit Go.Shelf Fb
attribute [local go_sem] Oper.semAt_some

set_option maxRecDepth 100000 in
set_option maxHeartbeats 3200000 in
theorem size_any (A : Option Addr) (c : Nat) (l : List (Int × Int)) (w : World) (h1 : OneL w A c l) :
    Calls Try.prog 15 #[.slice A l.length c] w (Says (.int .i64 (Sp.sz (Sp.inL l) : Int)) w) := by
  have n1 := fun wx (hx : OneL wx A c l) => All_any A c l wx hx
  have hsq := fun bc dc D wx (hx : w.heap.size + 1 ≤ wx.heap.size) h1 h2 => eachO_stops (Sp.inL l) w.heap.size (w.heap.size + 1) bc dc D wx hx h1 h2
  have hlen := Sp.obL_len (Sp.inL l)
  rw [← hlen]
  obtain ⟨J, hJ⟩ : ∃ J, Sp.obL (Sp.inL l) = J := ⟨_, rfl⟩
  obtain ⟨L, hL⟩ : ∃ L, Sp.ofL (Sp.inL l) = L := ⟨_, rfl⟩
  rw [hJ] at hsq ⊢
  rw [hL] at n1 hsq
  have SQ := Lib.hid hsq
  have N1 := Lib.hid n1
  have H1 := Lib.hid h1
  clear n1 h1 hJ hL hsq hlen
  refine (callsIn_wide (n := 3)).1 ?_
  refine callsIn_of_wp_marks Try.func15 rfl trivial ?_ rfl
  simp only [Try.ntmps15, List.size_toArray, List.length_cons, List.length_nil, Nat.reduceAdd, Nat.reduceSub, Array.replicate_succ, Array.replicate_zero, List.push_toArray, List.append_toArray, List.nil_append, List.cons_append]
  gi_wp2_with fail
  have hb0 := below_new (Below.refl w.heap.size w) (.cells #[.int .i64 0] 3)
  have hB0 := Blk.new w 3 #[.int .i64 0]
  have hz0 : (w.alloc (.cells #[.int .i64 0] 3)).heap.size = w.heap.size + 1 := by simp
  obtain ⟨W, hW⟩ : ∃ W, w.alloc (.cells #[.int .i64 0] 3) = W := ⟨_, rfl⟩
  rw [hW] at hb0 hB0 hz0 ⊢
  clear hW
  refine ⟨trivial, (callsIn_wide.2 (N1.out _ (H1.out.later hb0))).mono ?_⟩
  rintro e w1 ⟨b, D, dc, rfl, hc, hf, b1⟩
  rw [hz0] at hf
  have bb1 := below_on hb0 b1
  have C0 := hB0.later b1
  have c0 := C0.cell (i := 0) rfl
  have c0f := C0.free 0
  have hz1 := b1.size
  rw [hz0] at hz1
  have hsz := bb1.size
  clear N1 H1 hB0
  gi_wp2_with fail
  refine wpIn_rangeFunc_ownF rfl (by omega) (gf := 36) (lb := #[.pointer (some ⟨b, 0, none⟩)]) rfl trivial enters_eachO (SQ.out b dc D w1 hz1 hc hf) KeepC.trans (fun W l' o o' _ h1 h2 _ => KeepC.mark W l' o o' h1 h2) (Below.refl _ _) (fun _ => rfl)
    (fun pre W => (W.cell? ⟨w.heap.size, 0, none⟩ = some (.int .i64 (pre.length : Int)) ∧ W.frozen? ⟨w.heap.size, 0, none⟩ = false) ∧ Below w.heap.size w W)
    (fun _ _ _ => False) ?hI (fun _ _ _ _ _ h _ _ => h) ⟨⟨c0, c0f⟩, bb1⟩
    (fun x => { tmps := #[.slice A l.length c, undef, .int .i64 0, .pointer (some ⟨w.heap.size, 0, none⟩), .slice A l.length c, .func (.func 36) #[] #[.pointer (some ⟨b, 0, none⟩)], .int .i64 x, undef, undef, undef], defers := [] }) ?assign ?body ?done ?stop
  case hI => exact OwnFrom.and (Own.from (fun s A B row hs hg hr => ⟨cell_kept hs.1 hg hr, (frozen_kept hs.1 hg hr).trans hs.2⟩) _) (ownFrom_below (Nat.le_refl _) bb1.size)
  case assign =>
    intro l' x W K hK
    unfold told1
    gi_wp2
    simpa using hK
  case body =>
    rintro l' pre x W ⟨⟨hk, hkf⟩, hB⟩ hlt
    have hs : ((pre ++ [x]).length : Int) = (pre.length : Int) + 1 := by rw [List.length_append]; rfl
    have HS := Lib.hid hs
    clear hs
    gi_wp2
    refine ⟨KeepsOthers.setCell _ _ _, KeepC.set _ _ _ (Nat.le_refl _) (by simp), ⟨?_, by rw [World.frozen?_setCell]; exact hkf⟩, hB.setCell (p := ⟨w.heap.size, 0, none⟩) (Nat.le_refl _) _⟩
    rw [HS.out]
    exact World.cell?_setCell_same' _ _ _ (by rw [hk]; rfl)
  case done =>
    rintro DD ys W hD hys ⟨⟨hk, hkf⟩, hB⟩ hK
    rw [hys] at hk
    have hz := hB.size
    gi_wp2
    refine ⟨by simp, .inl ⟨_, _, rfl, run_takeDeferred hK, ?_⟩⟩
    exact ⟨_, results_tmp rfl _ _ _, rfl, hB.trans (belowK_b (w := w) (Nat.le_refl _) W DD _ _ (by omega) hK rfl rfl)⟩
  case stop =>
    rintro DD c pre W _ _ h _
    exact h.elim

set_option maxRecDepth 100000 in
set_option maxHeartbeats 1600000 in
theorem of_any (A : Option Addr) (c : Nat) (xs : List Int) (w : World) (hl : xs.length ≤ 9223372036854775807) (h1 : Lies w A (xs.map (Value.int .i64))) :
    Calls Try.prog 18 #[.slice A xs.length c] w (GivesS (Sp.ofL (Sp.someOf xs)) w) := by
  have H1 := Lib.hid h1
  clear h1
  go_enter Try.func18, Try.ntmps18
  go_wp2_with fail
  rw [set_zero]
  go_loopw [8] (fun s4 wr => ∃ k : Nat, k ≤ xs.length ∧ s4 = .int .i64 (k : Int) ∧ Blk wr w.heap.size 48 (Sp.arr (Sp.someOf (xs.take k))) ∧ Below w.heap.size w wr) (fun s4 _ => xs.length - (intOf s4).toNat)
  case atStart => exact ⟨0, Nat.zero_le _, rfl, Blk.new _ _ _, below_new (Below.refl _ _) _⟩
  case round =>
    obtain ⟨k, hk, rfl, hB, hbw⟩ := hrel
    by_cases hlt : k < xs.length
    · have hne : xs.map (Value.int .i64) ≠ [] := fun e => by rw [List.map_eq_nil_iff] at e; subst e; simp at hlt
      obtain ⟨b, off, hA, hc⟩ := (H1.out.later hbw) hne
      subst hA
      have e0 := hc k (.int .i64 xs[k]) (by rw [List.getElem?_map, List.getElem?_eq_getElem hlt]; rfl)
      have hit := Sp.someOf_take xs k hlt
      obtain ⟨x, hx⟩ : ∃ x, xs[k] = x := ⟨_, rfl⟩
      rw [hx] at e0 hit
      obtain ⟨f, hf⟩ : ∃ f, Sp.someOf (xs.take k) = f := ⟨_, rfl⟩
      rw [hf] at hB hit
      have hi0 : (0 : Int) ≤ (k : Int) := by omega
      have hi1 : (k : Int) < (xs.length : Int) := by omega
      have hout : ¬ (0 ≤ x ∧ x ≤ 255) → ∀ i, i < 256 → f i = Sp.someOf (xs.take (k + 1)) i := fun h i hi => by
        rw [hit i, decide_eq_false (by omega), Bool.or_false]
      have HOUT := Lib.hid hout
      have HIT := Lib.hid hit
      have HB := Lib.hid hB
      clear hout hit hB hc hf hx
      have n1 := fun wx => isObject_any x wx
      by_cases h0 : 0 ≤ x ∧ x ≤ 255
      · rw [decide_eq_true h0] at n1
        have N1 := Lib.hid n1
        obtain ⟨n, rfl⟩ : ∃ n : Nat, x = (n : Int) := ⟨x.toNat, by omega⟩
        have hn : n < 256 := by omega
        clear n1 h0
        go_wp2_with fail
        refine (N1.out _).mono ?_
        rintro e w2 ⟨rfl, b2⟩
        have hbx := below_on hbw b2
        have HC := HB.out.later b2
        have x1 := HC.marks_cell n hn
        have x2 := HC.free n
        have hj0 : (0 : Int) ≤ (n : Int) := by omega
        have hj1 : (n : Int) < 256 := by omega
        have hB2 := (HC.marks_put n hn true).marks_same (f' := Sp.someOf (xs.take (k + 1))) (fun i _ => by
          rw [HIT.out i]
          by_cases e : i = n
          · rw [if_pos e, decide_eq_true (by omega), Bool.or_true]
          · rw [if_neg e, decide_eq_false (by omega), Bool.or_false])
        have HB2 := Lib.hid hB2
        have hbz := hbx.setCell (p := ⟨w.heap.size, n, none⟩) (Nat.le_refl _) (.bool true)
        clear hB2 HC N1
        go_wp2_with fail
        go_roundw
        case rel => exact ⟨k + 1, by omega, by go_num, HB2.out, hbz⟩
        case measure => simp [intOf]; omega
      · rw [decide_eq_false h0] at n1
        have N1 := Lib.hid n1
        have HB2 := Lib.hid (HB.out.marks_same (HOUT.out h0))
        clear n1
        go_wp2_with fail
        refine (N1.out _).mono ?_
        rintro e w2 ⟨rfl, b2⟩
        have HB3 := Lib.hid (HB2.out.later b2)
        have hbx := below_on hbw b2
        clear N1
        go_wp2_with fail
        go_roundw
        case rel => exact ⟨k + 1, by omega, by go_num, HB3.out, hbx⟩
        case measure => simp [intOf]; omega
    · have hkl : k = xs.length := by omega
      subst hkl
      rw [List.take_length] at hB
      have HB := Lib.hid hB
      clear hB
      go_wp2_with (refine wpList_load_row rfl 48 _ rfl w.heap.size rfl 48 _ (0, 0) _ HB.out Try.underlying48 rfl (by rw [Sp.arr_size]; exact infoSet) ?_)
      refine (spans_any _ _).mono ?_
      rintro e w3 ⟨v, rfl, ho, hb3⟩
      have HO := Lib.hid ho
      have hz := hbw.size
      clear ho
      go_wp2
      go_ret
      exact ⟨_, rfl, own_base HO.out hz, below_on hbw hb3⟩

set_option maxRecDepth 100000 in
set_option maxHeartbeats 3200000 in
theorem meet_any (A B : Option Addr) (c d : Nat) (l r : List (Int × Int)) (w : World) (h1 : OneL w A c l) (h2 : OneL w B d r) :
    Calls Try.prog 22 #[.slice A l.length c, .slice B r.length d] w (GivesS (Sp.meetS l r) w) := by
  have n0 := fun t => setOf_one h2 t
  have n1 := fun wx (hx : OneL wx A c l) => All_any A c l wx hx
  have hsq := fun n₀ B bc dc D wx hx h1 h2 => walkO_stops (Sp.inL l) n₀ B bc dc D wx hx h1 h2
  have hall := Sp.hasF_all (Sp.inL l)
  unfold Sp.meetS
  obtain ⟨J, hJ⟩ : ∃ J, Sp.comesO Sp.objF (Sp.inL l) 256 = J := ⟨_, rfl⟩
  obtain ⟨L, hL⟩ : ∃ L, Sp.ofL (Sp.inL l) = L := ⟨_, rfl⟩
  obtain ⟨f, hf⟩ : ∃ f, Sp.inL l = f := ⟨_, rfl⟩
  obtain ⟨g, hg⟩ : ∃ g, Sp.inL r = g := ⟨_, rfl⟩
  rw [hJ] at hsq hall
  rw [hL] at n1 hsq
  rw [hf] at hall ⊢
  rw [hg] at n0 ⊢
  have SQ := Lib.hid hsq
  have N0 := Lib.hid n0
  have N1 := Lib.hid n1
  have H1 := Lib.hid h1
  have HALL := Lib.hid hall
  clear n0 n1 h1 h2 hJ hL hf hg hsq hall
  refine (callsIn_wide (n := 3)).1 ?_
  refine callsIn_of_wp_marks Try.func22 rfl trivial ?_ rfl
  simp only [Try.ntmps22, List.size_toArray, List.length_cons, List.length_nil, Nat.reduceAdd, Nat.reduceSub, Array.replicate_succ, Array.replicate_zero, List.push_toArray, List.append_toArray, List.nil_append, List.cons_append]
  gi_wp2_with fail
  refine ⟨trivial, (callsIn_wide.2 (N0.out _)).mono ?_⟩
  rintro e w1 ⟨rfl, b1⟩
  have E5 := Blk.new w1 48 (Sp.arr fun _ => false)
  have F5 := (E5.row (Sp.arr g)).alloc (.cells (Sp.arr fun _ => false) 48)
  have hzz : ((w1.alloc (.cells (Sp.arr fun _ => false) 48)).setRow w1.heap.size (Sp.arr g)).heap.size = w1.heap.size + 1 := by simp
  have F6 := Blk.new ((w1.alloc (.cells (Sp.arr fun _ => false) 48)).setRow w1.heap.size (Sp.arr g)) 48 (Sp.arr fun _ => false)
  have b3 := below_new (below_setRow (below_new b1 (.cells (Sp.arr fun _ => false) 48)) b1.size (Sp.arr g)) (.cells (Sp.arr fun _ => false) 48)
  rw [hzz] at F6
  have z3 : (((w1.alloc (.cells (Sp.arr fun _ => false) 48)).setRow w1.heap.size (Sp.arr g)).alloc (.cells (Sp.arr fun _ => false) 48)).heap.size = w1.heap.size + 2 := by simp
  rw [← set_zero] at E5
  gi_wp2_with (refine in_store_row rfl 48 _ _ rfl w1.heap.size _ rfl rfl 48 _ E5 (by rw [Sp.arr_size]; exact infoSet) (by rw [set_zero, Sp.arr_size, Sp.arr_size]) (one_marks _) ?_)
  rw [set_zero]
  obtain ⟨W3, hW3⟩ : ∃ W3, ((w1.alloc (.cells (Sp.arr fun _ => false) 48)).setRow w1.heap.size (Sp.arr g)).alloc (.cells (Sp.arr fun _ => false) 48) = W3 := ⟨_, rfl⟩
  rw [hW3] at F5 F6 b3 z3 ⊢
  have hz1 := b1.size
  clear hW3 E5 hzz N0
  refine ⟨trivial, (callsIn_wide.2 (N1.out _ (H1.out.later b3))).mono ?_⟩
  rintro e w4 ⟨bc, D, dc, rfl, hc, hfar, b4⟩
  have bb4 := below_on b3 b4
  have G5 := F5.later b4
  have G6 := F6.later b4
  have z4 := b4.size
  clear F5 F6 N1 H1
  gi_wp2_with fail
  refine wpIn_rangeFunc_ownF rfl (by omega) (gf := 36) (lb := #[.pointer (some ⟨bc, 0, none⟩)]) rfl trivial enters_eachO (SQ.out w.heap.size W3.heap.size bc dc D w4 b4.size hc hfar) KeepC.trans (fun W l' o o' _ h1 h2 _ => KeepC.mark W l' o o' h1 h2) (Below.refl _ _) (fun _ => rfl)
    (fun pre W => (Blk W w1.heap.size 48 (Sp.arr g) ∧ Blk W (w1.heap.size + 1) 48 (Sp.arr fun j => Sp.hasF pre j && g j)) ∧ Below w.heap.size w W)
    (fun _ _ _ => False) ?hI (fun _ _ _ _ _ h _ _ => h) ⟨⟨G5, G6⟩, bb4⟩
    (fun x => { tmps := #[.slice A l.length c, .slice B r.length d, undef, undef, .slice none 0 0, .pointer (some ⟨w1.heap.size, 0, none⟩), .pointer (some ⟨w1.heap.size + 1, 0, none⟩), .int .i64 (x.val : Int), .slice B r.length d, .slice (some ⟨w.heap.size, 0, none⟩) 1 1, .agg (Sp.arr g), .slice A l.length c, .func (.func 36) #[] #[.pointer (some ⟨bc, 0, none⟩)], .int .i64 (x.val : Int), undef, undef, undef, undef, undef, undef, undef], defers := [] }) ?assign ?body ?done ?stop
  case hI => exact OwnFrom.and (OwnFrom.and (Own.from (blk_own _ _ fun _ => Sp.arr g) _) (Own.from (blk_own _ _ fun pre => Sp.arr fun j => Sp.hasF pre j && g j) _)) (ownFrom_below (Nat.le_refl _) bb4.size)
  case assign =>
    intro l' x W K hK
    unfold tellO
    gi_wp2
    exact hK
  case body =>
    rintro l' pre x W ⟨⟨hB5, hB6⟩, hBw⟩ _
    have c1 := hB5.marks_cell x.val x.isLt
    have c2 := hB6.marks_cell x.val x.isLt
    have c3 := hB6.free x.val
    have hx0 : (0 : Int) ≤ (x.val : Int) := by omega
    have hx1 : (x.val : Int) < 256 := by have := x.isLt; omega
    have hst : ∀ i, i < 256 → (if i = x.val then g x.val else (Sp.hasF pre i && g i)) = (Sp.hasF (pre ++ [x]) i && g i) := fun i _ => by
      rw [Sp.hasF_snoc]
      by_cases hi : i = x.val
      · rw [if_pos hi, decide_eq_true hi.symm, Bool.or_true, Bool.true_and, hi]
      · rw [if_neg hi, decide_eq_false (fun h => hi h.symm), Bool.or_false]
    have B6 := (hB6.marks_put x.val x.isLt (g x.val)).marks_same hst
    have B5 := hB5.far (p := ⟨w1.heap.size + 1, x.val, none⟩) (by show w1.heap.size ≠ w1.heap.size + 1; omega) (.bool (g x.val))
    have hbs := hBw.setCell (p := ⟨w1.heap.size + 1, x.val, none⟩) (by show w.heap.size ≤ w1.heap.size + 1; omega) (.bool (g x.val))
    have HB5 := Lib.hid B5
    have HB6 := Lib.hid B6
    clear hst hB5 hB6 B5 B6
    gi_wp2
    exact ⟨KeepsOthers.setCell _ _ _, KeepC.set _ _ _ (by show w.heap.size ≤ w1.heap.size + 1; omega) (by show w1.heap.size + 1 < W3.heap.size; omega), ⟨HB5.out, HB6.out⟩, hbs⟩
  case done =>
    rintro DD ys W hD hys ⟨⟨hB5, hB6⟩, hBw⟩ hK
    rw [hys] at hB6
    have hN2 := hB6.marks_same (f' := fun j => f j && g j) (fun i hi => by rw [HALL.out i hi])
    have hDl := (Array.getElem?_eq_some_iff.1 hK).1
    have HN := Lib.hid hN2
    clear hB5 hB6 hN2 G5 G6
    gi_wp2_with (refine in_load_row rfl 48 _ rfl (w1.heap.size + 1) rfl 48 _ _ HN.out Try.underlying48 rfl (by rw [Sp.arr_size]; exact infoSet) ?_)
    refine ⟨trivial, (callsIn_wide.2 (spans_any _ _)).mono ?_⟩
    rintro e w5 ⟨v, rfl, ho, b5⟩
    have hK5 := (b5.block DD hDl).trans hK
    have hb5 := below_on hBw b5
    have HO := Lib.hid ho
    clear ho HN
    gi_wp2
    refine ⟨by simp, .inl ⟨_, _, rfl, run_takeDeferred hK5, ?_⟩⟩
    exact ⟨_, results_tmp rfl _ _ _, v, rfl, ownsRow_putObj (own_base HO.out hBw.size) _ hK5 rfl, hb5.trans (belowK_b (w := w) (Nat.le_refl _) w5 DD _ _ (by have := bb4.size; omega) hK5 rfl rfl)⟩
  case stop =>
    rintro DD c pre W _ _ h _
    exact h.elim

set_option maxRecDepth 100000 in
set_option maxHeartbeats 3200000 in
theorem less_any (A B : Option Addr) (c d : Nat) (l r : List (Int × Int)) (w : World) (h1 : OneL w A c l) (h2 : OneL w B d r) :
    Calls Try.prog 23 #[.slice A l.length c, .slice B r.length d] w (GivesS (Sp.lessS l r) w) := by
  have n0 := fun t => setOf_one h1 t
  have n1 := fun wx (hx : OneL wx B d r) => All_any B d r wx hx
  have hsq := fun n₀ B bc dc D wx hx h1 h2 => walkO_stops (Sp.inL r) n₀ B bc dc D wx hx h1 h2
  have hall := Sp.hasF_all (Sp.inL r)
  unfold Sp.lessS
  obtain ⟨J, hJ⟩ : ∃ J, Sp.comesO Sp.objF (Sp.inL r) 256 = J := ⟨_, rfl⟩
  obtain ⟨L, hL⟩ : ∃ L, Sp.ofL (Sp.inL r) = L := ⟨_, rfl⟩
  obtain ⟨f, hf⟩ : ∃ f, Sp.inL l = f := ⟨_, rfl⟩
  obtain ⟨g, hg⟩ : ∃ g, Sp.inL r = g := ⟨_, rfl⟩
  rw [hJ] at hsq hall
  rw [hL] at n1 hsq
  rw [hg] at hall ⊢
  rw [hf] at n0 ⊢
  have SQ := Lib.hid hsq
  have N0 := Lib.hid n0
  have N1 := Lib.hid n1
  have H2 := Lib.hid h2
  have HALL := Lib.hid hall
  clear n0 n1 h1 h2 hJ hL hf hg hsq hall
  refine (callsIn_wide (n := 3)).1 ?_
  refine callsIn_of_wp_marks Try.func23 rfl trivial ?_ rfl
  simp only [Try.ntmps23, List.size_toArray, List.length_cons, List.length_nil, Nat.reduceAdd, Nat.reduceSub, Array.replicate_succ, Array.replicate_zero, List.push_toArray, List.append_toArray, List.nil_append, List.cons_append]
  gi_wp2_with fail
  refine ⟨trivial, (callsIn_wide.2 (N0.out _)).mono ?_⟩
  rintro e w1 ⟨rfl, b1⟩
  have E5 := Blk.new w1 48 (Sp.arr fun _ => false)
  have F5 := E5.row (Sp.arr f)
  have b3 := below_setRow (below_new b1 (.cells (Sp.arr fun _ => false) 48)) b1.size (Sp.arr f)
  have z3 : ((w1.alloc (.cells (Sp.arr fun _ => false) 48)).setRow w1.heap.size (Sp.arr f)).heap.size = w1.heap.size + 1 := by simp
  rw [← set_zero] at E5
  gi_wp2_with (refine in_store_row rfl 48 _ _ rfl w1.heap.size _ rfl rfl 48 _ E5 (by rw [Sp.arr_size]; exact infoSet) (by rw [set_zero, Sp.arr_size, Sp.arr_size]) (one_marks _) ?_)
  rw [set_zero]
  obtain ⟨W3, hW3⟩ : ∃ W3, (w1.alloc (.cells (Sp.arr fun _ => false) 48)).setRow w1.heap.size (Sp.arr f) = W3 := ⟨_, rfl⟩
  rw [hW3] at F5 b3 z3 ⊢
  have hz1 := b1.size
  clear hW3 E5 N0
  refine ⟨trivial, (callsIn_wide.2 (N1.out _ (H2.out.later b3))).mono ?_⟩
  rintro e w4 ⟨bc, D, dc, rfl, hc, hfar, b4⟩
  have bb4 := below_on b3 b4
  have G5 := F5.later b4
  have z4 := b4.size
  clear F5 N1 H2
  gi_wp2_with fail
  refine wpIn_rangeFunc_ownF rfl (by omega) (gf := 36) (lb := #[.pointer (some ⟨bc, 0, none⟩)]) rfl trivial enters_eachO (SQ.out w.heap.size W3.heap.size bc dc D w4 b4.size hc hfar) KeepC.trans (fun W l' o o' _ h1 h2 _ => KeepC.mark W l' o o' h1 h2) (Below.refl _ _) (fun _ => rfl)
    (fun pre W => Blk W w1.heap.size 48 (Sp.arr fun j => f j && !Sp.hasF pre j) ∧ Below w.heap.size w W)
    (fun _ _ _ => False) ?hI (fun _ _ _ _ _ h _ _ => h) ⟨G5.marks_same (fun i _ => by show f i = (f i && !false); cases f i <;> rfl), bb4⟩
    (fun x => { tmps := #[.slice A l.length c, .slice B r.length d, undef, undef, .slice none 0 0, .pointer (some ⟨w1.heap.size, 0, none⟩), .int .i64 (x.val : Int), .slice A l.length c, .slice (some ⟨w.heap.size, 0, none⟩) 1 1, .agg (Sp.arr f), .slice B r.length d, .func (.func 36) #[] #[.pointer (some ⟨bc, 0, none⟩)], .int .i64 (x.val : Int), undef, undef, undef, undef], defers := [] }) ?assign ?body ?done ?stop
  case hI => exact OwnFrom.and (Own.from (blk_own _ _ fun pre => Sp.arr fun j => f j && !Sp.hasF pre j) _) (ownFrom_below (Nat.le_refl _) bb4.size)
  case assign =>
    intro l' x W K hK
    unfold tellO
    gi_wp2
    exact hK
  case body =>
    rintro l' pre x W ⟨hB5, hBw⟩ _
    have c2 := hB5.marks_cell x.val x.isLt
    have c3 := hB5.free x.val
    have hx0 : (0 : Int) ≤ (x.val : Int) := by omega
    have hx1 : (x.val : Int) < 256 := by have := x.isLt; omega
    have hst : ∀ i, i < 256 → (if i = x.val then false else (f i && !Sp.hasF pre i)) = (f i && !Sp.hasF (pre ++ [x]) i) := fun i _ => by
      rw [Sp.hasF_snoc]
      by_cases hi : i = x.val
      · rw [if_pos hi, decide_eq_true hi.symm, Bool.or_true, Bool.not_true, Bool.and_false]
      · rw [if_neg hi, decide_eq_false (fun h => hi h.symm), Bool.or_false]
    have B5 := (hB5.marks_put x.val x.isLt false).marks_same hst
    have hbs := hBw.setCell (p := ⟨w1.heap.size, x.val, none⟩) hz1 (.bool false)
    have HB5 := Lib.hid B5
    clear hst hB5 B5
    gi_wp2
    exact ⟨KeepsOthers.setCell _ _ _, KeepC.set _ _ _ hz1 (by show w1.heap.size < W3.heap.size; omega), HB5.out, hbs⟩
  case done =>
    rintro DD ys W hD hys ⟨hB5, hBw⟩ hK
    rw [hys] at hB5
    have hN2 := hB5.marks_same (f' := fun j => f j && !g j) (fun i hi => by rw [HALL.out i hi])
    have hDl := (Array.getElem?_eq_some_iff.1 hK).1
    have HN := Lib.hid hN2
    clear hB5 hN2 G5
    gi_wp2_with (refine in_load_row rfl 48 _ rfl w1.heap.size rfl 48 _ _ HN.out Try.underlying48 rfl (by rw [Sp.arr_size]; exact infoSet) ?_)
    refine ⟨trivial, (callsIn_wide.2 (spans_any _ _)).mono ?_⟩
    rintro e w5 ⟨v, rfl, ho, b5⟩
    have hK5 := (b5.block DD hDl).trans hK
    have hb5 := below_on hBw b5
    have HO := Lib.hid ho
    clear ho HN
    gi_wp2
    refine ⟨by simp, .inl ⟨_, _, rfl, run_takeDeferred hK5, ?_⟩⟩
    exact ⟨_, results_tmp rfl _ _ _, v, rfl, ownsRow_putObj (own_base HO.out hBw.size) _ hK5 rfl, hb5.trans (belowK_b (w := w) (Nat.le_refl _) w5 DD _ _ (by have := bb4.size; omega) hK5 rfl rfl)⟩
  case stop =>
    rintro DD c pre W _ _ h _
    exact h.elim

set_option maxHeartbeats 800000 in
theorem touch_any (A B : Option Addr) (c d : Nat) (l r : List (Int × Int)) (w : World) (h1 : OneL w A c l) (h2 : OneL w B d r) :
    Calls Try.prog 28 #[.slice A l.length c, .slice B r.length d] w (Says (.bool (Sp.touch (Sp.inL l) (Sp.inL r))) w) := by
  have n1 := meet_any A B c d l r w h1 h2
  have ht : Sp.touch (Sp.inL l) (Sp.inL r) = decide (0 < (Sp.meetS l r).length) := Sp.touch_ref _ _
  have hlen : (Sp.meetS l r).length ≤ 128 := Sp.ofL_len _
  rw [ht]
  obtain ⟨M, hM⟩ : ∃ M, Sp.meetS l r = M := ⟨_, rfl⟩
  rw [hM] at n1 hlen ⊢
  have N1 := Lib.hid n1
  clear n1 h1 h2 ht hM
  go_enter Try.func28, Try.ntmps28
  go_wp2_with fail
  refine N1.out.mono ?_
  rintro e w1 ⟨v, rfl, ho, b1⟩
  obtain ⟨D, dc, rfl, _⟩ := own_far ho
  clear ho N1
  go_wp2
  go_ret
  exact ⟨by simp, b1⟩

end Go.Proofs.Ytnnmcnbpnfegpaa
