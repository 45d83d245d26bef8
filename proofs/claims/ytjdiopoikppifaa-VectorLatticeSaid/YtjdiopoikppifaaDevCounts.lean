/-
  What vector's countsOf answers of any list in memory: of each node the count of its first right stamp. And the function value over it.
-/
import Derived.Test.YtjdiopoikppifaaDevEach
namespace Go.Proofs.Ytjdiopoikppifaa
open Go.RowKit

theorem Ve.cnt_snoc (l : List (Int × Int)) (s : Int × Int) (n : Nat) : Ve.cnt (l ++ [s]) n = if Ve.cnt l n = 0 ∧ St.rgt s.1 s.2 = true ∧ s.2 = (n : Int) then s.1 else Ve.cnt l n := by
  induction l with
  | nil => simp [Ve.cnt]
  | cons x r ih =>
    rw [List.cons_append, Ve.cnt, Ve.cnt, ih]
    by_cases h : St.rgt x.1 x.2 = true ∧ x.2 = (n : Int)
    · have hx : 1 ≤ x.1 := by have := h.1; unfold St.rgt at this; exact (of_decide_eq_true this).1
      rw [if_pos h, if_pos h, if_neg (by omega)]
    · rw [if_neg h, if_neg h]
theorem Ve.cnt_take (l : List (Int × Int)) (k : Nat) (h : k < l.length) (n : Nat) : Ve.cnt (l.take (k + 1)) n = if Ve.cnt (l.take k) n = 0 ∧ St.rgt l[k].1 l[k].2 = true ∧ l[k].2 = (n : Int) then l[k].1 else Ve.cnt (l.take k) n := by
  rw [List.take_succ_eq_append_getElem h, Ve.cnt_snoc]

set_option maxRecDepth 100000 in
set_option maxHeartbeats 1600000 in
theorem countsOf_any (A : Option Addr) (cap : Nat) (l : List (Int × Int)) (w : World) (hl : l.length ≤ 9223372036854775807) (h : Stamps w A l) :
    Calls Try.prog 32 #[.slice A l.length cap] w fun e w' => e = .returned (.agg (Ve.arr (Ve.cnt l))) ∧ Below w.heap.size w w' := by
  have HS := Lib.hid h
  clear h
  go_enter Try.func32, Try.ntmps32
  go_wp2_with fail
  rw [← Ve.arr_zero]
  go_loopw [8] (fun s8 wr => ∃ k : Nat, k ≤ l.length ∧ s8 = .int .i64 (k : Int) ∧ Blk wr (w.heap.size + 1) 46 (Ve.arr (Ve.cnt (l.take k))) ∧ Blk wr w.heap.size 46 (Ve.arr fun _ => 0) ∧ Below w.heap.size w wr) (fun s8 _ => l.length - (intOf s8).toNat)
  case atStart =>
    have hb := Blk.new (w.alloc (.cells (Ve.arr fun _ => 0) 46)) 46 (Ve.arr fun _ => 0)
    rw [show (w.alloc (.cells (Ve.arr fun _ => 0) 46)).heap.size = w.heap.size + 1 from by simp] at hb
    exact ⟨0, Nat.zero_le _, rfl, hb, (Blk.new _ _ _).alloc _, below_new (below_new (Below.refl _ _) _) _⟩
  case round =>
    obtain ⟨k, hk, rfl, hB1, hB0, hbw⟩ := hrel
    by_cases hlt : k < l.length
    · have hne : l ≠ [] := fun e => by subst e; simp at hlt
      obtain ⟨b, off, hA, hc⟩ := HS.out hne
      subst hA
      obtain ⟨e0, e1⟩ := hc k hlt
      have hb0 : b < w.heap.size := World.block_lt_of_cell? _ _ e0
      rw [List.getD_eq_getElem?_getD, List.getElem?_eq_getElem hlt, Option.getD_some] at e0 e1
      have f0 := (hbw.cell (p := ⟨b, _, none⟩) hb0).trans e0
      have f1 := (hbw.cell (p := ⟨b, _, none⟩) hb0).trans e1
      have hcd := Ve.cnt_take l k hlt
      have HCD := Lib.hid hcd
      obtain ⟨x, hx⟩ : ∃ x, l[k].1 = x := ⟨_, rfl⟩
      obtain ⟨y, hy⟩ : ∃ y, l[k].2 = y := ⟨_, rfl⟩
      rw [hx] at f0
      rw [hy] at f1
      have HB1 := Lib.hid (hB1.alloc (.cells #[.int .i64 x, .int .i64 y] 24))
      have HB0 := Lib.hid (hB0.alloc (.cells #[.int .i64 x, .int .i64 y] 24))
      have HB2 := Lib.hid (Blk.new wr 24 #[.int .i64 x, .int .i64 y])
      have hbn := below_new hbw (.cells #[.int .i64 x, .int .i64 y] 24)
      have HXY := Lib.hid (show l[k].1 = x ∧ l[k].2 = y from ⟨hx, hy⟩)
      clear e0 e1 hc hcd hB1 hB0 hx hy
      have hi0 : (0 : Int) ≤ (k : Int) := by omega
      have hi1 : (k : Int) < (l.length : Int) := by omega
      have fin : ∀ wx, Blk wx (w.heap.size + 1) 46 (Ve.arr (Ve.cnt (l.take (k + 1)))) → Blk wx w.heap.size 46 (Ve.arr fun _ => 0) → Below w.heap.size w wx →
          ∃ k' : Nat, k' ≤ l.length ∧ Value.int .i64 ((k : Int) + 1) = .int .i64 (k' : Int) ∧ Blk wx (w.heap.size + 1) 46 (Ve.arr (Ve.cnt (l.take k'))) ∧ Blk wx w.heap.size 46 (Ve.arr fun _ => 0) ∧ Below w.heap.size w wx :=
        fun wx h1 h2 h3 => ⟨k + 1, by omega, by go_num, h1, h2, h3⟩
      have FIN := Lib.hid fin
      clear fin
      go_wp2_with fail
      refine (right_any _ _ _).mono ?_
      rintro e w1 ⟨rfl, hb1⟩
      have hbx := below_on hbn hb1
      have B1 := HB1.out.later hb1
      have B0 := HB0.out.later hb1
      have B2 := HB2.out.later hb1
      have g0 := B2.cell (i := 0) rfl
      have g1 := B2.cell (i := 1) rfl
      clear HB0 HB1 HB2
      cases hr : St.rgt x y
      · have hs : ∀ i, i < 64 → Ve.cnt (l.take k) i = Ve.cnt (l.take (k + 1)) i := fun i _ => by rw [HCD.out i, HXY.out.1, HXY.out.2, if_neg (by rw [hr]; simp)]
        have B3 := Lib.hid (B1.same hs)
        have B4 := Lib.hid B0
        clear B1 B0 B2 hr hs
        go_wp2_with fail
        go_roundw
        case rel => exact FIN.out _ B3.out B4.out hbx
        case measure => simp [intOf]; omega
      · have hrr : 1 ≤ x ∧ 0 ≤ y ∧ y ≤ 63 := by unfold St.rgt at hr; exact of_decide_eq_true hr
        obtain ⟨nn, hnn⟩ : ∃ nn : Nat, y = (nn : Int) := ⟨y.toNat, by omega⟩
        have hn64 : nn < 64 := by omega
        rw [hnn] at g1
        have c1 := B1.arr_cell nn hn64
        have c2 := B1.free nn
        have hj0 : (0 : Int) ≤ (nn : Int) := by omega
        have hj1 : (nn : Int) < 64 := by omega
        by_cases hz : Ve.cnt (l.take k) nn = 0
        · have hzb : (Ve.cnt (l.take k) nn == 0) = true := beq_iff_eq.2 hz
          have hs : ∀ i, i < 64 → (if i = nn then x else Ve.cnt (l.take k) i) = Ve.cnt (l.take (k + 1)) i := fun i _ => by
            rw [HCD.out i, HXY.out.1, HXY.out.2, hr, hnn]
            by_cases hi : i = nn
            · rw [if_pos hi, if_pos ⟨by rw [hi]; exact hz, rfl, by rw [hi]⟩]
            · rw [if_neg hi, if_neg (fun h => hi (by have := h.2.2; omega))]
          have B3 := Lib.hid ((B1.arr_put nn hn64 x).same hs)
          have B4 := Lib.hid (B0.far (p := ⟨w.heap.size + 1, nn, none⟩) (by simp) (.int .i64 x))
          clear B1 B0 B2 hr hs hrr hnn f0 f1 hz
          go_wp2_with fail
          go_roundw
          case rel => exact FIN.out _ B3.out B4.out (hbx.setCell (by simp) _)
          case measure => simp [intOf]; omega
        · have hzb : (Ve.cnt (l.take k) nn == 0) = false := beq_eq_false_iff_ne.2 hz
          have hs : ∀ i, i < 64 → Ve.cnt (l.take k) i = Ve.cnt (l.take (k + 1)) i := fun i _ => by
            rw [HCD.out i, HXY.out.1, HXY.out.2, hr, hnn]
            refine (if_neg ?_).symm
            rintro ⟨q1, -, q2⟩
            have q3 : i = nn := by omega
            rw [q3] at q1
            exact hz q1
          have B3 := Lib.hid (B1.same hs)
          have B4 := Lib.hid B0
          clear B1 B0 B2 hr hs hrr hnn f0 f1 hz
          go_wp2_with fail
          go_roundw
          case rel => exact FIN.out _ B3.out B4.out hbx
          case measure => simp [intOf]; omega
    · have hkl : k = l.length := by omega
      subst hkl
      rw [List.take_length] at hB1
      go_wp2_with (first | (refine wpList_load_row rfl 46 _ rfl (w.heap.size + 1) rfl 46 _ (0, 0) _ hB1 Try.underlying46 rfl (by rw [Ve.arr_size]; exact infoC) ?_) | (refine wpList_store_row rfl 46 _ _ rfl w.heap.size _ rfl rfl 46 _ hB0 (by rw [Ve.arr_size]; exact infoC) (by rw [Ve.arr_size, Ve.arr_size]) (one_arr _) ?_))
      refine bodyPost_ret (v := .agg (Ve.arr (Ve.cnt l))) (results_cell_row rfl _ _ w.heap.size 46 (Ve.arr (Ve.cnt l)) (0, 0) _ rfl (setRow_heap _ _ _ _ _ _ hB0) Try.underlying46 rfl (by rw [Ve.arr_size]; exact infoC)) rfl ⟨rfl, below_setRow hbw (Nat.le_refl _) _⟩

end Go.Proofs.Ytjdiopoikppifaa
