/-
  What vector's Join answers: the greatest counts of many lists, by a loop over each list's All.
-/
import Derived.Test.YtjdiopoikppifaaDevMarks
namespace Go.Proofs.Ytjdiopoikppifaa
open Go.RowKit Go.Shelf
attribute [local go_sem] Oper.semAt_some

set_option maxRecDepth 100000 in
set_option maxHeartbeats 3200000 in
theorem join_any (A : Option Addr) (c : Nat) (ls : List (List (Int × Int))) (w : World) (hn : ls.length ≤ 9223372036854775807) (h : Rows w A ls) :
    Calls Try.prog 24 #[.slice A ls.length c] w (Gives (Ve.joinL ls) w) := by
  have H := Lib.hid h
  clear h
  refine (callsIn_wide (n := 3)).1 ?_
  refine callsIn_of_wp_marks Try.func24 rfl trivial ?_ rfl
  simp only [Try.ntmps24, List.size_toArray, List.length_cons, List.length_nil, Nat.reduceAdd, Nat.reduceSub, Array.replicate_succ, Array.replicate_zero, List.push_toArray, List.append_toArray, List.nil_append, List.cons_append]
  gi_wp2_with fail
  rw [← Ve.arr_zero]
  refine wpIn_loop (fun a' wr => ∃ (k : Nat) (Ds : List Nat) (u5 u11 u12 u13 u14 u15 u25 : Value), k ≤ ls.length ∧ Blk wr w.heap.size 46 (Ve.arr (Ve.jnTo ls k)) ∧ Below w.heap.size w wr ∧ Marks w.heap.size Ds wr ∧
      a' = { tmps := #[.slice A ls.length c, undef, .slice none 0 0, .pointer (some ⟨w.heap.size, 0, none⟩), undef, u5, undef, undef, .slice A ls.length c, .int .i64 (ls.length : Int), .int .i64 (k : Int), u11, u12, u13, u14, u15, undef, undef, undef, undef, undef, undef, undef, undef, undef, u25, undef, undef], defers := Ds.map Mark })
    (fun a' _ => ls.length - (intOf (a'.tmps.getD 10 undef)).toNat) ?start ?round
  case start =>
    exact ⟨0, [], undef, undef, undef, undef, undef, undef, undef, Nat.zero_le _, Blk.new _ _ _, below_new (Below.refl _ _) _, Marks.nil _ _, rfl⟩
  case round =>
    rintro a' wr ⟨k, Ds, u5, u11, u12, u13, u14, u15, u25, hk, hB, hbw, hM, rfl⟩
    by_cases hlt : k < ls.length
    · have hne : ls ≠ [] := fun e => by subst e; simp at hlt
      obtain ⟨b, off, hA, hc⟩ := H.out hne
      obtain ⟨A', c', e0, o1⟩ := hc k hlt
      subst hA
      have f0 := (hbw.cell (p := ⟨b, _, none⟩) (World.block_lt_of_cell? _ _ e0)).trans e0
      have hi0 : (0 : Int) ≤ (k : Int) := by omega
      have hi1 : (k : Int) < (ls.length : Int) := by omega
      obtain ⟨v, hv⟩ : ∃ v, ls.getD k [] = v := ⟨_, rfl⟩
      rw [hv] at f0 o1
      have n1 := All_any A' c' v wr (o1.later hbw)
      have hj : ∀ j, j < 64 → putAll (Ve.jnTo ls k) (Ve.cnt v) (comes node (Ve.cnt v) 64) j = Ve.jnTo ls (k + 1) j := fun j hj => by
        rw [putAll_all _ _ (Ve.jnTo_nonneg ls k) j hj, Ve.jnTo, hv]
      obtain ⟨f, hf⟩ : ∃ f, Ve.jnTo ls k = f := ⟨_, rfl⟩
      obtain ⟨g, hg⟩ : ∃ g, Ve.cnt v = g := ⟨_, rfl⟩
      rw [hf, hg] at hj
      rw [hf] at hB
      rw [hg] at n1
      obtain ⟨J, hJ⟩ : ∃ J, comes node g 64 = J := ⟨_, rfl⟩
      have hsq := fun b t w hB => walk_stops g b t (fun _ _ => True) w hB
      rw [hJ] at hsq hj
      have SQ := Lib.hid hsq
      have HJ := Lib.hid hj
      have N1 := Lib.hid n1
      have HM := Lib.hid hM
      have HB := Lib.hid hB
      clear hc e0 o1 hv n1 hj hf hg hJ hsq hM hB
      gi_wp2_with fail
      refine ⟨trivial, (callsIn_wide.2 N1.out).mono ?_⟩
      rintro e w3 ⟨b3, rfl, hB3, hle, b4⟩
      have bb3 := below_on hbw b4
      have hM3 := HM.out.later b4
      have hlt3 := hM3.lt
      have hB0 := HB.out.later b4
      have z3 := bb3.size
      clear N1 HM HB hbw
      gi_wp2_with fail
      refine wpIn_rangeFunc_ownF rfl (by omega) (gf := 40) (lb := #[.pointer (some ⟨b3, 0, none⟩)]) rfl trivial enters_each (SQ.out b3 _ w3 hB3) (fun _ _ => trivial) (fun _ _ _ _ _ _ _ _ => trivial) (Below.refl _ _) (fun _ => rfl)
        (fun pre W => (Blk W w.heap.size 46 (Ve.arr (putAll f g pre)) ∧ Marks w.heap.size Ds W) ∧ Below w.heap.size w W)
        (fun _ _ _ => False) ?hI (fun _ _ _ _ _ h _ _ => h) ⟨⟨hB0, hM3⟩, bb3⟩
        (fun x => { tmps := #[.slice (some ⟨b, off, none⟩) ls.length c, undef, .slice none 0 0, .pointer (some ⟨w.heap.size, 0, none⟩), undef, .slice A' v.length c', .int .i64 (x.val : Int), .int .i64 (g x.val), .slice (some ⟨b, off, none⟩) ls.length c, .int .i64 (ls.length : Int), .int .i64 (k : Int), .bool true, .pointer (some ⟨b, off + k, none⟩), .slice A' v.length c', .slice A' v.length c', .func (.func 40) #[] #[.pointer (some ⟨b3, 0, none⟩)], .int .i64 (x.val : Int), .int .i64 (g x.val), undef, undef, undef, undef, undef, undef, undef, u25, undef, undef], defers := [] }) ?assign ?body ?done ?stop
      case hI => exact OwnFrom.and (OwnFrom.and (Own.from (blk_own _ _ fun pre => Ve.arr (putAll f g pre)) _) (marks_own hlt3)) (ownFrom_below (Nat.le_refl _) z3)
      case assign =>
        intro l' x W K hK
        unfold tellN
        gi_wp2
        exact hK
      case body =>
        rintro l' pre x W ⟨⟨hB, hM⟩, hBw⟩ _
        have c1 := hB.arr_cell x.val x.isLt
        have c2 := hB.free x.val
        have hx0 : (0 : Int) ≤ (x.val : Int) := by omega
        have hx1 : (x.val : Int) < 64 := by have := x.isLt; omega
        have hst : ∀ y, y = (if putAll f g pre x.val < g x.val then g x.val else putAll f g pre x.val) → ∀ i, i < 64 → (if i = x.val then y else putAll f g pre i) = putAll f g (pre ++ [x]) i := fun y hy i _ => by
          rw [putAll_snoc]
          by_cases hi : i = x.val
          · rw [if_pos hi, if_pos hi, hy, hi]
          · rw [if_neg hi, if_neg hi]
        have fin : ∀ y, y = (if putAll f g pre x.val < g x.val then g x.val else putAll f g pre x.val) → KeepsOthers W (W.setCell ⟨w.heap.size, x.val, none⟩ (.int .i64 y)) ∧ True ∧ (Blk (W.setCell ⟨w.heap.size, x.val, none⟩ (.int .i64 y)) w.heap.size 46 (Ve.arr (putAll f g (pre ++ [x]))) ∧ Marks w.heap.size Ds (W.setCell ⟨w.heap.size, x.val, none⟩ (.int .i64 y))) ∧ Below w.heap.size w (W.setCell ⟨w.heap.size, x.val, none⟩ (.int .i64 y)) := fun y hy =>
          ⟨KeepsOthers.setCell _ _ _, trivial, ⟨(hB.arr_put x.val x.isLt y).same (hst y hy), hM.others (KeepsOthers.setCell _ _ _)⟩, hBw.setCell (p := ⟨w.heap.size, x.val, none⟩) (Nat.le_refl _) _⟩
        have FIN := Lib.hid fin
        clear hst fin hB hM
        by_cases hgt : putAll f g pre x.val < g x.val
        · have HY := Lib.hid (show g x.val = (if putAll f g pre x.val < g x.val then g x.val else putAll f g pre x.val) from by rw [if_pos hgt])
          gi_wp2
          exact FIN.out _ HY.out
        · have HY := Lib.hid (show putAll f g pre x.val = (if putAll f g pre x.val < g x.val then g x.val else putAll f g pre x.val) from by rw [if_neg hgt])
          have hle2 : g x.val ≤ putAll f g pre x.val := by omega
          gi_wp2
          exact FIN.out _ HY.out
      case done =>
        rintro D ys W hD hys ⟨⟨hB, hM⟩, hBw⟩ hK
        rw [hys] at hB
        have hB2 := Lib.hid (hB.same HJ.out)
        have hM2 := Lib.hid (hM.cons (by omega) (fun h => by have := hlt3 D h; omega) hK)
        clear hB hM hys hK
        gi_wp2
        refine ⟨⟨k + 1, D :: Ds, .slice A' v.length c', .bool true, .pointer (some ⟨b, off + k, none⟩), .slice A' v.length c', .slice A' v.length c', .func (.func 40) #[] #[.pointer (some ⟨b3, 0, none⟩)], .int .i64 ((k : Int) + 1), by omega, hB2.out, hBw, hM2.out, ?_⟩, ?_⟩
        · rfl
        · simp [intOf]
          omega
      case stop =>
        rintro D c pre W _ _ h _
        exact h.elim
    · have hkl : k = ls.length := by omega
      subst hkl
      have HM := Lib.hid hM
      have HB := Lib.hid hB
      clear hM hB
      gi_wp2_with (refine in_load_row rfl 46 _ rfl w.heap.size rfl 46 _ _ HB.out Try.underlying46 rfl (by rw [Ve.arr_size]; exact infoC) ?_)
      refine ⟨trivial, (callsIn_wide.2 (vector_any _ _)).mono ?_⟩
      rintro e w3 ⟨v, rfl, ho, b3⟩
      have HO := Lib.hid ho
      have hM3 := HM.out.later b3
      have bb3 := below_on hbw b3
      have HM3 := Lib.hid hM3
      clear ho hM3 HM HB
      gi_wp2
      refine leaves_marks (n₀ := w.heap.size) (fun wx => wx.ownsRow w.heap.size 24 2 v (Ve.joinL ls).length (stCells (Ve.joinL ls)) ∧ Below w.heap.size w wx) ?_ ?_ Ds w3 HM3.out ⟨own_base HO.out hbw.size, bb3⟩
      · rintro wx D ⟨q1, q2⟩ hD hK
        exact ⟨ownsRow_putObj q1 _ hK rfl, q2.trans (belowK_b (w := w) (Nat.le_refl _) wx D _ _ hD hK rfl rfl)⟩
      · rintro wx ⟨q1, q2⟩
        exact ⟨_, results_tmp rfl _ _ _, v, rfl, q1, q2⟩

end Go.Proofs.Ytjdiopoikppifaa
