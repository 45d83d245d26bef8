/-
  What telltaleref03's Meet, Less, Covers and Touch answer.
-/
import Derived.Test.YtnnmcnbpnfegpaaSpRefMore
namespace Go.Proofs.Ytnnmcnbpnfegpaa
open Go.RowKit Fb

def Sp.butNot (a b : Bool) : Bool := a && !b

set_option maxRecDepth 100000 in
set_option maxHeartbeats 1600000 in
theorem smeet_any (A B : Option Addr) (c d : Nat) (l r : List (Int × Int)) (w : World) (h1 : OneL w A c l) (h2 : OneL w B d r) :
    Calls Try.prog 24 #[.slice A l.length c, .slice B r.length d] w (GivesS (Sp.meetS l r) w) := by
  have n1 := set_any A c l w h1.len h1.stamps
  have n2 := fun wx (hx : OneL wx B d r) => set_any B d r wx h2.len hx.stamps
  have hres : Sp.meetS l r = Sp.ofL (fun o => and (Sp.inL l o) (Sp.inL r o)) := rfl
  obtain ⟨f, hf⟩ : ∃ f, Sp.inL l = f := ⟨_, rfl⟩
  obtain ⟨g, hg⟩ : ∃ g, Sp.inL r = g := ⟨_, rfl⟩
  rw [hf] at n1 hres
  rw [hg] at n2 hres
  rw [hres]
  have N1 := Lib.hid n1
  have N2 := Lib.hid n2
  have H2 := Lib.hid h2
  clear n1 n2 h1 h2 hf hg hres
  go_enter Try.func24, Try.ntmps24
  go_wp2_with fail
  refine N1.out.mono ?_
  rintro e w1 ⟨rfl, b1⟩
  have N3 := Lib.hid (N2.out w1 (H2.out.later b1))
  clear N1 N2 H2
  go_wp2_with fail
  refine N3.out.mono ?_
  rintro e w2 ⟨rfl, b2⟩
  clear N3
  have bb2 := below_on b1 b2
  have hz := bb2.size
  have C0 := (Blk.new w2 38 (Sp.arr fun _ => false)).alloc (.cells (Sp.arr fun _ => false) 38)
  have C1 := Blk.new (w2.alloc (.cells (Sp.arr fun _ => false) 38)) 38 (Sp.arr fun _ => false)
  rw [show (w2.alloc (.cells (Sp.arr fun _ => false) 38)).heap.size = w2.heap.size + 1 from by simp] at C1
  have D0 := (C0.row (Sp.arr f)).rowFar (g' := w2.heap.size + 1) (by omega) (Sp.arr g)
  have D1 := (C1.rowFar (g' := w2.heap.size) (by omega) (Sp.arr f)).row (Sp.arr g)
  have E1 := C1.rowFar (g' := w2.heap.size) (by omega) (Sp.arr f)
  have b6 := below_setRow (below_setRow (below_new (below_new bb2 (.cells (Sp.arr fun _ => false) 38)) (.cells (Sp.arr fun _ => false) 38)) (g := w2.heap.size) hz (Sp.arr f)) (g := w2.heap.size + 1) (by omega) (Sp.arr g)
  rw [← marks_zero] at C0 E1
  go_wp2_with (first | (refine wpList_store_row rfl 38 _ _ rfl w2.heap.size (Sp.arr f) rfl rfl 38 Try.zeroCells38 C0 (by rw [Sp.arr_size]; exact info256) (by rw [marks_zero, Sp.arr_size, Sp.arr_size]) (one_marks _) ?_) | (refine wpList_store_row rfl 38 _ _ rfl (w2.heap.size + 1) (Sp.arr g) rfl rfl 38 Try.zeroCells38 E1 (by rw [Sp.arr_size]; exact info256) (by rw [marks_zero, Sp.arr_size, Sp.arr_size]) (one_marks _) ?_))
  rw [marks_zero]
  clear C0 C1 E1
  go_loopw [7] (fun s7 wq => ∃ n : Nat, n ≤ 256 ∧ s7 = .int .i64 (n : Int) ∧ Blk wq w2.heap.size 38 (Sp.arr (Sp.mixTo and f g n)) ∧ Blk wq (w2.heap.size + 1) 38 (Sp.arr g) ∧ Below w.heap.size w wq) (fun s7 _ => 256 - (intOf s7).toNat)
  case atStart => exact ⟨0, by omega, rfl, D0.marks_same (fun i _ => Sp.mix_start and f g i), D1, b6⟩
  case round =>
    obtain ⟨n, hn, rfl, hC, hD, hbq⟩ := hrel
    clear D0 D1 b6
    by_cases hlt2 : n < 256
    · have x0 := hC.marks_cell n hlt2
      have x1 := hC.free n
      have y0 := hD.marks_cell n hlt2
      rw [Sp.mix_here] at x0
      have hj0 : (0 : Int) ≤ (n : Int) := by omega
      have hj1 : (n : Int) < 256 := by omega
      have hfin : ∀ v, v = and (f n) (g n) → Blk (wr.setCell ⟨w2.heap.size, n, none⟩ (.bool v)) w2.heap.size 38 (Sp.arr (Sp.mixTo and f g (n + 1))) ∧ Blk (wr.setCell ⟨w2.heap.size, n, none⟩ (.bool v)) (w2.heap.size + 1) 38 (Sp.arr g) ∧ Below w.heap.size w (wr.setCell ⟨w2.heap.size, n, none⟩ (.bool v)) := fun v hv =>
        ⟨(hC.marks_put n hlt2 v).marks_same (fun i _ => Sp.mix_step and f g n v hv i), hD.far (p := ⟨w2.heap.size, n, none⟩) (by show w2.heap.size + 1 ≠ w2.heap.size; omega) _, hbq.setCell (p := ⟨w2.heap.size, n, none⟩) hz _⟩
      have HFIN := Lib.hid hfin
      clear hC hD hfin
      cases hfn : f n <;> cases hgn : g n
      all_goals
        rw [hfn] at x0
        rw [hgn] at y0
        rw [hfn, hgn] at HFIN
        clear hfn hgn
        go_wp2_with fail
        go_roundw
        case rel =>
          obtain ⟨q1, q2, q3⟩ := HFIN.out _ rfl
          exact ⟨n + 1, by omega, by go_num, q1, q2, q3⟩
        case measure => simp [intOf]; omega
    · have hn64 : n = 256 := by omega
      subst hn64
      have HB9 := Lib.hid (hC.marks_same (f' := fun o => and (f o) (g o)) (fun i hi => Sp.mix_end and f g i hi))
      clear hC hD
      go_wp2_with (refine wpList_load_row rfl 38 _ rfl w2.heap.size rfl 38 _ (0, 0) _ HB9.out Try.underlying38 rfl (by rw [Sp.arr_size]; exact info256) ?_)
      refine (ofS_any _ _).mono ?_
      rintro e w3 ⟨v, rfl, ho, hb3⟩
      have HO := Lib.hid ho
      have hz3 := hbq.size
      clear ho
      go_wp2
      go_ret
      exact ⟨_, rfl, own_base HO.out hz3, below_on hbq hb3⟩

set_option maxRecDepth 100000 in
set_option maxHeartbeats 1600000 in
theorem sless_any (A B : Option Addr) (c d : Nat) (l r : List (Int × Int)) (w : World) (h1 : OneL w A c l) (h2 : OneL w B d r) :
    Calls Try.prog 25 #[.slice A l.length c, .slice B r.length d] w (GivesS (Sp.lessS l r) w) := by
  have n1 := set_any A c l w h1.len h1.stamps
  have n2 := fun wx (hx : OneL wx B d r) => set_any B d r wx h2.len hx.stamps
  have hres : Sp.lessS l r = Sp.ofL (fun o => Sp.butNot (Sp.inL l o) (Sp.inL r o)) := rfl
  obtain ⟨f, hf⟩ : ∃ f, Sp.inL l = f := ⟨_, rfl⟩
  obtain ⟨g, hg⟩ : ∃ g, Sp.inL r = g := ⟨_, rfl⟩
  rw [hf] at n1 hres
  rw [hg] at n2 hres
  rw [hres]
  have N1 := Lib.hid n1
  have N2 := Lib.hid n2
  have H2 := Lib.hid h2
  clear n1 n2 h1 h2 hf hg hres
  go_enter Try.func25, Try.ntmps25
  go_wp2_with fail
  refine N1.out.mono ?_
  rintro e w1 ⟨rfl, b1⟩
  have N3 := Lib.hid (N2.out w1 (H2.out.later b1))
  clear N1 N2 H2
  go_wp2_with fail
  refine N3.out.mono ?_
  rintro e w2 ⟨rfl, b2⟩
  clear N3
  have bb2 := below_on b1 b2
  have hz := bb2.size
  have C0 := (Blk.new w2 38 (Sp.arr fun _ => false)).alloc (.cells (Sp.arr fun _ => false) 38)
  have C1 := Blk.new (w2.alloc (.cells (Sp.arr fun _ => false) 38)) 38 (Sp.arr fun _ => false)
  rw [show (w2.alloc (.cells (Sp.arr fun _ => false) 38)).heap.size = w2.heap.size + 1 from by simp] at C1
  have D0 := (C0.row (Sp.arr f)).rowFar (g' := w2.heap.size + 1) (by omega) (Sp.arr g)
  have D1 := (C1.rowFar (g' := w2.heap.size) (by omega) (Sp.arr f)).row (Sp.arr g)
  have E1 := C1.rowFar (g' := w2.heap.size) (by omega) (Sp.arr f)
  have b6 := below_setRow (below_setRow (below_new (below_new bb2 (.cells (Sp.arr fun _ => false) 38)) (.cells (Sp.arr fun _ => false) 38)) (g := w2.heap.size) hz (Sp.arr f)) (g := w2.heap.size + 1) (by omega) (Sp.arr g)
  rw [← marks_zero] at C0 E1
  go_wp2_with (first | (refine wpList_store_row rfl 38 _ _ rfl w2.heap.size (Sp.arr f) rfl rfl 38 Try.zeroCells38 C0 (by rw [Sp.arr_size]; exact info256) (by rw [marks_zero, Sp.arr_size, Sp.arr_size]) (one_marks _) ?_) | (refine wpList_store_row rfl 38 _ _ rfl (w2.heap.size + 1) (Sp.arr g) rfl rfl 38 Try.zeroCells38 E1 (by rw [Sp.arr_size]; exact info256) (by rw [marks_zero, Sp.arr_size, Sp.arr_size]) (one_marks _) ?_))
  rw [marks_zero]
  clear C0 C1 E1
  go_loopw [7] (fun s7 wq => ∃ n : Nat, n ≤ 256 ∧ s7 = .int .i64 (n : Int) ∧ Blk wq w2.heap.size 38 (Sp.arr (Sp.mixTo Sp.butNot f g n)) ∧ Blk wq (w2.heap.size + 1) 38 (Sp.arr g) ∧ Below w.heap.size w wq) (fun s7 _ => 256 - (intOf s7).toNat)
  case atStart => exact ⟨0, by omega, rfl, D0.marks_same (fun i _ => Sp.mix_start Sp.butNot f g i), D1, b6⟩
  case round =>
    obtain ⟨n, hn, rfl, hC, hD, hbq⟩ := hrel
    clear D0 D1 b6
    by_cases hlt2 : n < 256
    · have x0 := hC.marks_cell n hlt2
      have x1 := hC.free n
      have y0 := hD.marks_cell n hlt2
      rw [Sp.mix_here] at x0
      have hj0 : (0 : Int) ≤ (n : Int) := by omega
      have hj1 : (n : Int) < 256 := by omega
      have hfin : ∀ v, v = Sp.butNot (f n) (g n) → Blk (wr.setCell ⟨w2.heap.size, n, none⟩ (.bool v)) w2.heap.size 38 (Sp.arr (Sp.mixTo Sp.butNot f g (n + 1))) ∧ Blk (wr.setCell ⟨w2.heap.size, n, none⟩ (.bool v)) (w2.heap.size + 1) 38 (Sp.arr g) ∧ Below w.heap.size w (wr.setCell ⟨w2.heap.size, n, none⟩ (.bool v)) := fun v hv =>
        ⟨(hC.marks_put n hlt2 v).marks_same (fun i _ => Sp.mix_step Sp.butNot f g n v hv i), hD.far (p := ⟨w2.heap.size, n, none⟩) (by show w2.heap.size + 1 ≠ w2.heap.size; omega) _, hbq.setCell (p := ⟨w2.heap.size, n, none⟩) hz _⟩
      have HFIN := Lib.hid hfin
      clear hC hD hfin
      cases hfn : f n <;> cases hgn : g n
      all_goals
        rw [hfn] at x0
        rw [hgn] at y0
        rw [hfn, hgn] at HFIN
        clear hfn hgn
        go_wp2_with fail
        go_roundw
        case rel =>
          obtain ⟨q1, q2, q3⟩ := HFIN.out _ rfl
          exact ⟨n + 1, by omega, by go_num, q1, q2, q3⟩
        case measure => simp [intOf]; omega
    · have hn64 : n = 256 := by omega
      subst hn64
      have HB9 := Lib.hid (hC.marks_same (f' := fun o => Sp.butNot (f o) (g o)) (fun i hi => Sp.mix_end Sp.butNot f g i hi))
      clear hC hD
      go_wp2_with (refine wpList_load_row rfl 38 _ rfl w2.heap.size rfl 38 _ (0, 0) _ HB9.out Try.underlying38 rfl (by rw [Sp.arr_size]; exact info256) ?_)
      refine (ofS_any _ _).mono ?_
      rintro e w3 ⟨v, rfl, ho, hb3⟩
      have HO := Lib.hid ho
      have hz3 := hbq.size
      clear ho
      go_wp2
      go_ret
      exact ⟨_, rfl, own_base HO.out hz3, below_on hbq hb3⟩

set_option maxHeartbeats 800000 in
theorem scovers_any (A B : Option Addr) (c d : Nat) (l r : List (Int × Int)) (w : World) (h1 : OneL w A c l) (h2 : OneL w B d r) :
    Calls Try.prog 27 #[.slice A l.length c, .slice B r.length d] w fun e w' => e = .returned (.bool (Sp.cov (Sp.inL l) (Sp.inL r))) ∧ Below w.heap.size w w' := by
  have n1 := sless_any B A d c r l w h2 h1
  have hr : Sp.cov (Sp.inL l) (Sp.inL r) = (((Sp.lessS r l).length : Int) == 0) := by
    rw [Sp.cov_ref, Bool.eq_iff_iff, beq_iff_eq, beq_iff_eq]
    exact Int.natCast_eq_zero.symm
  rw [hr]
  have N1 := Lib.hid n1
  clear n1 hr
  go_enter Try.func27, Try.ntmps27
  go_wp2_with fail
  refine N1.out.mono ?_
  rintro e w1 hg
  obtain ⟨C, k, rfl, ho, b1⟩ := hg.one
  clear hg ho
  go_wp2
  go_ret
  exact ⟨rfl, b1⟩

set_option maxHeartbeats 800000 in
theorem stouch_any (A B : Option Addr) (c d : Nat) (l r : List (Int × Int)) (w : World) (h1 : OneL w A c l) (h2 : OneL w B d r) :
    Calls Try.prog 29 #[.slice A l.length c, .slice B r.length d] w fun e w' => e = .returned (.bool (Sp.touch (Sp.inL l) (Sp.inL r))) ∧ Below w.heap.size w w' := by
  have n1 := smeet_any A B c d l r w h1 h2
  have hr : Sp.touch (Sp.inL l) (Sp.inL r) = decide (0 < (Sp.meetS l r).length) := Sp.touch_ref _ _
  rw [hr]
  have N1 := Lib.hid n1
  clear n1 hr
  go_enter Try.func29, Try.ntmps29
  go_wp2_with fail
  refine N1.out.mono ?_
  rintro e w1 hg
  obtain ⟨C, k, rfl, ho, b1⟩ := hg.one
  clear hg ho
  go_wp2
  go_ret
  exact ⟨rfl, b1⟩

end Go.Proofs.Ytnnmcnbpnfegpaa
