/-
  A loop over a function that stands in an ordinary loop: each time it is entered it leaves a mark; the marks are taken up when the function returns.
  What vector's Join answers: the greatest counts of many lists, by a loop over each list's All.
  What vector's Count, Has, Formed, Compare and With answer.
  What vector's Formed answers of any list.
-/
import Derived.Test.YtcfkpjbakccgiaaG18
namespace Go.Proofs.Ytcfkpjbakccgiaa
open Go.RowKit Go.Shelf

/-- The greater of each node, of those that have come. -/
def putAll (f g : Nat → Int) (pre : List (Fin 64)) : Nat → Int := pre.foldl (fun h i => fun j => if j = i.val then (if h j < g j then g j else h j) else h j) f
theorem putAll_snoc (f g : Nat → Int) (pre : List (Fin 64)) (x : Fin 64) (j : Nat) : putAll f g (pre ++ [x]) j = if j = x.val then (if putAll f g pre j < g j then g j else putAll f g pre j) else putAll f g pre j := by
  unfold putAll
  rw [List.foldl_append]
  rfl
theorem putAll_comes (f g : Nat → Int) (hf : ∀ n, 0 ≤ f n) : ∀ k, k ≤ 64 → ∀ j, putAll f g (comes node g k) j = Ve.mxTo f g k j
  | 0, _, j => by unfold Ve.mxTo; rw [if_neg (by omega)]; rfl
  | k + 1, h, j => by
    have ih := putAll_comes f g hf k (by omega)
    have hv := node_val (k := k) (by omega)
    have hfk := hf k
    have hk : Ve.mxTo f g k k = f k := by unfold Ve.mxTo; rw [if_neg (by omega)]
    rw [← Ve.mx_step f g k _ rfl j]
    by_cases hp : 0 < g k
    · rw [comes_yes _ _ _ hp, putAll_snoc, hv, ih j]
      by_cases hj : j = k
      · rw [if_pos hj, if_pos hj, hj, hk]
      · rw [if_neg hj, if_neg hj]
    · rw [comes_no _ _ _ hp, ih j]
      by_cases hj : j = k
      · rw [if_pos hj, hj, hk, if_neg (by omega)]
      · rw [if_neg hj]
theorem putAll_all (f g : Nat → Int) (hf : ∀ n, 0 ≤ f n) (j : Nat) (hj : j < 64) : putAll f g (comes node g 64) j = if f j < g j then g j else f j := by
  rw [putAll_comes f g hf 64 (Nat.le_refl _) j]
  unfold Ve.mxTo
  rw [if_pos hj]

end Go.Proofs.Ytcfkpjbakccgiaa
namespace Go.Proofs.Ytcfkpjbakccgiaa
open Go.RowKit Go.Shelf
attribute [local go_sem] Oper.semAt_some

set_option maxRecDepth 100000 in
set_option maxHeartbeats 3200000 in
theorem join_any (A : Option Addr) (c : Nat) (ls : List (List (Int × Int))) (w : World) (hn : ls.length ≤ 9223372036854775807) (h : Rows w A ls) :
    Calls Try.prog 51 #[.slice A ls.length c] w (Gives (Ve.joinL ls) w) := by
  have H := Lib.hid h
  clear h
  refine (callsIn_wide (n := 3)).1 ?_
  refine callsIn_of_wp_marks Try.func51 rfl trivial ?_ rfl
  simp only [Try.ntmps51, List.size_toArray, List.length_cons, List.length_nil, Nat.reduceAdd, Nat.reduceSub, Array.replicate_succ, Array.replicate_zero, List.push_toArray, List.append_toArray, List.nil_append, List.cons_append]
  gi_wp2_with fail
  rw [← Ve.arr_zero]
  refine wpIn_loop (fun a' wr => ∃ (k : Nat) (Ds : List Nat) (u5 u11 u12 u13 u14 u15 u25 : Value), k ≤ ls.length ∧ Blk wr w.heap.size 92 (Ve.arr (Ve.jnTo ls k)) ∧ Below w.heap.size w wr ∧ Marks w.heap.size Ds wr ∧
      a' = { tmps := #[.slice A ls.length c, undef, .slice none 0 0, .pointer (some ⟨w.heap.size, 0, none⟩), undef, u5, undef, undef, .slice A ls.length c, .int .i64 (ls.length : Int), .int .i64 (k : Int), u11, u12, u13, u14, u15, undef, undef, undef, undef, undef, undef, undef, undef, undef, u25, undef, undef], defers := Ds.map Mark })
    (fun a' _ => ls.length - (intOf (a'.tmps.getD 10 undef)).toNat) ?start ?round
  case start =>
    exact ⟨0, [], undef, undef, undef, undef, undef, undef, undef, Nat.zero_le _, Blk.new _ _ _, below_new (Below.refl _ _) _, Marks.nil _ _, rfl⟩
  case round =>
    rintro a' wr ⟨k, Ds, u5, u11, u12, u13, u14, u15, u25, hk, hB, hbw, hM, rfl⟩
    by_cases hlt : k < ls.length
    · have hne : ls ≠ [] := fun e => by subst e; simp at hlt
      obtain ⟨b, off, hA, hc⟩ := H.out hne
      obtain ⟨A', c', e0, o1⟩ := hc k hlt
      subst hA
      have f0 := (hbw.cell (p := ⟨b, _, none⟩) (World.block_lt_of_cell? _ _ e0)).trans e0
      have hi0 : (0 : Int) ≤ (k : Int) := by omega
      have hi1 : (k : Int) < (ls.length : Int) := by omega
      obtain ⟨v, hv⟩ : ∃ v, ls.getD k [] = v := ⟨_, rfl⟩
      rw [hv] at f0 o1
      have n1 := All_any A' c' v wr (o1.later hbw)
      have hj : ∀ j, j < 64 → putAll (Ve.jnTo ls k) (Ve.cnt v) (comes node (Ve.cnt v) 64) j = Ve.jnTo ls (k + 1) j := fun j hj => by
        rw [putAll_all _ _ (Ve.jnTo_nonneg ls k) j hj, Ve.jnTo, hv]
      obtain ⟨f, hf⟩ : ∃ f, Ve.jnTo ls k = f := ⟨_, rfl⟩
      obtain ⟨g, hg⟩ : ∃ g, Ve.cnt v = g := ⟨_, rfl⟩
      rw [hf, hg] at hj
      rw [hf] at hB
      rw [hg] at n1
      obtain ⟨J, hJ⟩ : ∃ J, comes node g 64 = J := ⟨_, rfl⟩
      have hsq := fun b t w hB => walk_stops g b t (fun _ _ => True) w hB
      rw [hJ] at hsq hj
      have SQ := Lib.hid hsq
      have HJ := Lib.hid hj
      have N1 := Lib.hid n1
      have HM := Lib.hid hM
      have HB := Lib.hid hB
      clear hc e0 o1 hv n1 hj hf hg hJ hsq hM hB
      gi_wp2_with fail
      refine ⟨trivial, (callsIn_wide.2 N1.out).mono ?_⟩
      rintro e w3 ⟨b3, rfl, hB3, hle, b4⟩
      have bb3 := below_on hbw b4
      have hM3 := HM.out.later b4
      have hlt3 := hM3.lt
      have hB0 := HB.out.later b4
      have z3 := bb3.size
      clear N1 HM HB hbw
      gi_wp2_with fail
      refine wpIn_rangeFunc_ownF rfl (by omega) (gf := 94) (lb := #[.pointer (some ⟨b3, 0, none⟩)]) rfl trivial enters_each (SQ.out b3 _ w3 hB3) (fun _ _ => trivial) (fun _ _ _ _ _ _ _ _ => trivial) (Below.refl _ _) (fun _ => rfl)
        (fun pre W => (Blk W w.heap.size 92 (Ve.arr (putAll f g pre)) ∧ Marks w.heap.size Ds W) ∧ Below w.heap.size w W)
        (fun _ _ _ => False) ?hI (fun _ _ _ _ _ h _ _ => h) ⟨⟨hB0, hM3⟩, bb3⟩
        (fun x => { tmps := #[.slice (some ⟨b, off, none⟩) ls.length c, undef, .slice none 0 0, .pointer (some ⟨w.heap.size, 0, none⟩), undef, .slice A' v.length c', .int .i64 (x.val : Int), .int .i64 (g x.val), .slice (some ⟨b, off, none⟩) ls.length c, .int .i64 (ls.length : Int), .int .i64 (k : Int), .bool true, .pointer (some ⟨b, off + k, none⟩), .slice A' v.length c', .slice A' v.length c', .func (.func 94) #[] #[.pointer (some ⟨b3, 0, none⟩)], .int .i64 (x.val : Int), .int .i64 (g x.val), undef, undef, undef, undef, undef, undef, undef, u25, undef, undef], defers := [] }) ?assign ?body ?done ?stop
      case hI => exact OwnFrom.and (OwnFrom.and (Own.from (blk_own _ _ fun pre => Ve.arr (putAll f g pre)) _) (marks_own hlt3)) (ownFrom_below (Nat.le_refl _) z3)
      case assign =>
        intro l' x W K hK
        unfold tellN
        gi_wp2
        exact hK
      case body =>
        rintro l' pre x W ⟨⟨hB, hM⟩, hBw⟩ _
        have c1 := hB.arr_cell x.val x.isLt
        have c2 := hB.free x.val
        have hx0 : (0 : Int) ≤ (x.val : Int) := by omega
        have hx1 : (x.val : Int) < 64 := by have := x.isLt; omega
        have hst : ∀ y, y = (if putAll f g pre x.val < g x.val then g x.val else putAll f g pre x.val) → ∀ i, i < 64 → (if i = x.val then y else putAll f g pre i) = putAll f g (pre ++ [x]) i := fun y hy i _ => by
          rw [putAll_snoc]
          by_cases hi : i = x.val
          · rw [if_pos hi, if_pos hi, hy, hi]
          · rw [if_neg hi, if_neg hi]
        have fin : ∀ y, y = (if putAll f g pre x.val < g x.val then g x.val else putAll f g pre x.val) → KeepsOthers W (W.setCell ⟨w.heap.size, x.val, none⟩ (.int .i64 y)) ∧ True ∧ (Blk (W.setCell ⟨w.heap.size, x.val, none⟩ (.int .i64 y)) w.heap.size 92 (Ve.arr (putAll f g (pre ++ [x]))) ∧ Marks w.heap.size Ds (W.setCell ⟨w.heap.size, x.val, none⟩ (.int .i64 y))) ∧ Below w.heap.size w (W.setCell ⟨w.heap.size, x.val, none⟩ (.int .i64 y)) := fun y hy =>
          ⟨KeepsOthers.setCell _ _ _, trivial, ⟨(hB.arr_put x.val x.isLt y).same (hst y hy), hM.others (KeepsOthers.setCell _ _ _)⟩, hBw.setCell (p := ⟨w.heap.size, x.val, none⟩) (Nat.le_refl _) _⟩
        have FIN := Lib.hid fin
        clear hst fin hB hM
        by_cases hgt : putAll f g pre x.val < g x.val
        · have HY := Lib.hid (show g x.val = (if putAll f g pre x.val < g x.val then g x.val else putAll f g pre x.val) from by rw [if_pos hgt])
          gi_wp2
          exact FIN.out _ HY.out
        · have HY := Lib.hid (show putAll f g pre x.val = (if putAll f g pre x.val < g x.val then g x.val else putAll f g pre x.val) from by rw [if_neg hgt])
          have hle2 : g x.val ≤ putAll f g pre x.val := by omega
          gi_wp2
          exact FIN.out _ HY.out
      case done =>
        rintro D ys W hD hys ⟨⟨hB, hM⟩, hBw⟩ hK
        rw [hys] at hB
        have hB2 := Lib.hid (hB.same HJ.out)
        have hM2 := Lib.hid (hM.cons (by omega) (fun h => by have := hlt3 D h; omega) hK)
        clear hB hM hys hK
        gi_wp2
        refine ⟨⟨k + 1, D :: Ds, .slice A' v.length c', .bool true, .pointer (some ⟨b, off + k, none⟩), .slice A' v.length c', .slice A' v.length c', .func (.func 94) #[] #[.pointer (some ⟨b3, 0, none⟩)], .int .i64 ((k : Int) + 1), by omega, hB2.out, hBw, hM2.out, ?_⟩, ?_⟩
        · rfl
        · simp [intOf]
          omega
      case stop =>
        rintro D c pre W _ _ h _
        exact h.elim
    · have hkl : k = ls.length := by omega
      subst hkl
      have HM := Lib.hid hM
      have HB := Lib.hid hB
      clear hM hB
      gi_wp2_with (refine in_load_row rfl 92 _ rfl w.heap.size rfl 92 _ _ HB.out Try.underlying92 rfl (by rw [Ve.arr_size]; exact infoC) ?_)
      refine ⟨trivial, (callsIn_wide.2 (vector_any _ _)).mono ?_⟩
      rintro e w3 ⟨v, rfl, ho, b3⟩
      have HO := Lib.hid ho
      have hM3 := HM.out.later b3
      have bb3 := below_on hbw b3
      have HM3 := Lib.hid hM3
      clear ho hM3 HM HB
      gi_wp2
      refine leaves_marks (n₀ := w.heap.size) (fun wx => wx.ownsRow w.heap.size 53 2 v (Ve.joinL ls).length (stCells (Ve.joinL ls)) ∧ Below w.heap.size w wx) ?_ ?_ Ds w3 HM3.out ⟨own_base HO.out hbw.size, bb3⟩
      · rintro wx D ⟨q1, q2⟩ hD hK
        exact ⟨ownsRow_putObj q1 _ hK rfl, q2.trans (belowK_b (w := w) (Nat.le_refl _) wx D _ _ hD hK rfl rfl)⟩
      · rintro wx ⟨q1, q2⟩
        exact ⟨_, results_tmp rfl _ _ _, v, rfl, q1, q2⟩

end Go.Proofs.Ytcfkpjbakccgiaa
namespace Go.Proofs.Ytcfkpjbakccgiaa
open Go.RowKit

set_option maxHeartbeats 800000 in
theorem count_any (A : Option Addr) (c1 : Nat) (l : List (Int × Int)) (n : Int) (w : World) (h1 : OneL w A c1 l) :
    Calls Try.prog 80 #[.slice A l.length c1, .int .i64 n] w (Says (.int .i64 (countOf l n)) w) := by
  by_cases h0 : n < 0
  · have hc : countOf l n = 0 := by unfold countOf; rw [if_neg (by omega)]
    have HC := Lib.hid hc
    clear hc
    have hd : decide (n < 0) = true := decide_eq_true h0
    go_enter Try.func80, Try.ntmps80
    go_wp2
    go_ret
    exact ⟨by rw [HC.out]; rfl, Below.refl _ _⟩
  · have hd : decide (n < 0) = false := decide_eq_false h0
    by_cases h2 : 64 ≤ n
    · have hc : countOf l n = 0 := by unfold countOf; rw [if_neg (by omega)]
      have HC := Lib.hid hc
      clear hc
      have hd2 : decide (64 ≤ n) = true := decide_eq_true h2
      go_enter Try.func80, Try.ntmps80
      go_wp2
      go_ret
      exact ⟨by rw [HC.out]; rfl, Below.refl _ _⟩
    · obtain ⟨k, rfl⟩ : ∃ k : Nat, n = (k : Int) := ⟨n.toNat, by omega⟩
      have hk : k < 64 := by omega
      have hc : countOf l (k : Int) = Ve.cnt l k := by unfold countOf; rw [if_pos (by omega)]; rfl
      have HC := Lib.hid hc
      have hd2 : decide (64 ≤ (k : Int)) = false := decide_eq_false h2
      have N1 := Lib.hid (countsOf_any A c1 l w h1.len h1.stamps)
      clear hc
      have hix := fun w => index_counts (Ve.cnt l) k hk w
      go_enter Try.func80, Try.ntmps80
      go_wp2_with fail
      refine N1.out.mono ?_
      rintro e w2 ⟨rfl, hb2⟩
      go_wp2
      go_ret
      exact ⟨by rw [HC.out]; rfl, hb2⟩

set_option maxHeartbeats 1600000 in
theorem has_any (A : Option Addr) (c1 : Nat) (l : List (Int × Int)) (c n : Int) (w : World) (h1 : OneL w A c1 l) :
    Calls Try.prog 81 #[.slice A l.length c1, .agg #[.int .i64 c, .int .i64 n]] w (Says (.bool (hasOf l c n)) w) := by
  have hb0 := below_new (Below.refl w.heap.size w) (.cells #[.int .i64 c, .int .i64 n] 53)
  have hB := Blk.new w 53 #[.int .i64 c, .int .i64 n]
  have h1' := h1.later hb0
  clear h1
  obtain ⟨W, hW⟩ : ∃ W, w.alloc (.cells #[.int .i64 c, .int .i64 n] 53) = W := ⟨_, rfl⟩
  rw [hW] at hb0 hB h1'
  have HW := Lib.hid hW
  clear hW
  have k0 : ∀ d os, (Sort.grow (redrawn W d) os).cell? ⟨w.heap.size, 0, none⟩ = some (.int .i64 c) := cell_regrown (hB.cell rfl)
  have k1 : ∀ d os, (Sort.grow (redrawn W d) os).cell? ⟨w.heap.size, 1, none⟩ = some (.int .i64 n) := cell_regrown (hB.cell rfl)
  clear hB
  cases hr : St.rgt c n
  all_goals
    have hh : hasOf l c n = (St.rgt c n && decide (c ≤ countOf l n)) := rfl
    rw [hr] at hh
    have HH := Lib.hid hh
    have cR : ∀ d os, Calls Try.prog 68 #[.agg #[.int .i64 c, .int .i64 n]] (Sort.grow (redrawn W d) os) fun e w'' => e = .returned (.bool (St.rgt c n)) ∧ ∃ p : Regrown, w'' = Sort.grow (redrawn W p.d) p.os := fun d os => Calls.regrown_of (right_any c n _)
    have cC : ∀ d os, Calls Try.prog 80 #[.slice A l.length c1, .int .i64 n] (Sort.grow (redrawn W d) os) fun e w'' => e = .returned (.int .i64 (countOf l n)) ∧ ∃ p : Regrown, w'' = Sort.grow (redrawn W p.d) p.os := fun d os => Calls.regrown_of (count_any A c1 l n _ (h1'.later (below_regrown W d os)))
    rw [hr] at cR
    have CR := Lib.hid cR
    have CC := Lib.hid cC
    clear hh hr cR cC
    go_enter Try.func81, Try.ntmps81
    go_wp2_with fail
    rw [HW.out]
    refine wp_region_quiet_below (by kernel_rfl) (by kernel_rfl) ?_
    repeat (first | go_big_quiet_step (first | exact CR.out _ _ | exact CC.out _ _) | quiet_step (first | exact CR.out _ _ | exact CC.out _ _))
    refine wpQuiet_nil ?_
    intro _ hw'
    obtain ⟨⟨dq, osq⟩, hw''⟩ := hw'
    subst hw''
    go_wp2
    go_ret
    exact ⟨by rw [HH.out]; rfl, below_on hb0 (below_regrown W dq osq)⟩

end Go.Proofs.Ytcfkpjbakccgiaa
namespace Go.Proofs.Ytcfkpjbakccgiaa
open Go.RowKit

/-- The node of the last stamp of the first k; -1 if there is none. -/
def lastN (l : List (Int × Int)) : Nat → Int
  | 0 => -1
  | k + 1 => (l.getD k (0, 0)).2

set_option maxHeartbeats 1600000 in
theorem formed_any (A : Option Addr) (c1 : Nat) (l : List (Int × Int)) (w : World) (h1 : OneL w A c1 l) :
    Calls Try.prog 36 #[.slice A l.length c1] w (Says (.bool (Ve.fmd l)) w) := by
  have hl := h1.len
  have H1 := Lib.hid h1.stamps
  clear h1
  go_enter Try.func36, Try.ntmps36
  go_wp2_with fail
  go_loopw [3, 8] (fun s3 s8 wr => ∃ k : Nat, k ≤ l.length ∧ s8 = .int .i64 (k : Int) ∧ s3 = .int .i64 (lastN l k) ∧ Ve.fmTo l k ∧ Below w.heap.size w wr) (fun _ s8 _ => l.length - (intOf s8).toNat)
  case atStart => exact ⟨0, Nat.zero_le _, rfl, rfl, fun j hj => by omega, Below.refl _ _⟩
  case round =>
    obtain ⟨k, hk, rfl, rfl, heq, hbw⟩ := hrel
    have HEQ := Lib.hid heq
    clear heq
    by_cases hlt : k < l.length
    · have hne : l ≠ [] := fun e => by subst e; simp at hlt
      obtain ⟨b, off, hA, hcA⟩ := (H1.out.later hbw) hne
      subst hA
      obtain ⟨e0, e1⟩ := hcA k hlt
      have hi0 : (0 : Int) ≤ (k : Int) := by omega
      have hi1 : (k : Int) < (l.length : Int) := by omega
      obtain ⟨x, hx⟩ : ∃ x, l.getD k (0, 0) = x := ⟨_, rfl⟩
      rw [hx] at e0 e1
      obtain ⟨x1, x2⟩ := x
      have HB2 := Lib.hid (Blk.new wr 53 #[.int .i64 x1, .int .i64 x2])
      have hbn := below_new hbw (.cells #[.int .i64 x1, .int .i64 x2] 53)
      obtain ⟨ln, hln⟩ : ∃ ln, lastN l k = ln := ⟨_, rfl⟩
      rw [hln]
      have hprev : 0 < k → (l.getD (k - 1) (0, 0)).2 = ln := fun h => by
        cases k with
        | zero => omega
        | succ m => rw [← hln]; rfl
      have hz : k = 0 → ln = -1 := fun h => by subst h; rw [← hln]; rfl
      have hnext : lastN l (k + 1) = x2 := by show (l.getD k (0, 0)).2 = x2; rw [hx]
      have HX := Lib.hid hx
      have HP := Lib.hid hprev
      have HZ := Lib.hid hz
      have HN := Lib.hid hnext
      have HLN := Lib.hid hln
      clear hx hprev hz hnext hln hcA
      go_wp2_with fail
      refine (right_any _ _ _).mono ?_
      rintro e w1 ⟨rfl, hb1⟩
      have hbx := below_on hbn hb1
      have B2 := HB2.out.later hb1
      have g0 := B2.cell (i := 0) rfl
      have g1 := B2.cell (i := 1) rfl
      clear HB2 B2
      cases hr : St.rgt x1 x2
      · have hno : Ve.fmd l = false := Ve.fmd_no k hlt (fun h => by rw [HX.out, hr] at h; exact absurd h.1 (by simp))
        have HNO := Lib.hid hno
        clear hno hr
        go_wp2
        go_ret
        exact ⟨by rw [HNO.out]; rfl, hbx⟩
      · have hrr : 1 ≤ x1 ∧ 0 ≤ x2 ∧ x2 ≤ 63 := by unfold St.rgt at hr; exact of_decide_eq_true hr
        have HR := Lib.hid hr
        clear hr
        by_cases hle : x2 ≤ ln
        · have hd : decide (x2 ≤ ln) = true := decide_eq_true hle
          have hno : Ve.fmd l = false := Ve.fmd_no k hlt (fun h => by
            by_cases hk0 : k = 0
            · have := HZ.out hk0; omega
            · have h2 := h.2 (by omega)
              rw [HX.out, HP.out (by omega)] at h2
              have h3 : ln < x2 := h2
              omega)
          have HNO := Lib.hid hno
          clear hno
          go_wp2
          go_ret
          exact ⟨by rw [HNO.out]; rfl, hbx⟩
        · have hd : decide (x2 ≤ ln) = false := decide_eq_false hle
          have hall : Ve.fmTo l (k + 1) := by
            intro j hj
            by_cases e : j = k
            · subst e
              refine ⟨by rw [HX.out]; exact HR.out, fun h0 => ?_⟩
              rw [HX.out, HP.out h0]
              show ln < x2
              omega
            · exact HEQ.out j (by omega)
          have HALL := Lib.hid hall
          clear hall
          go_wp2_with fail
          go_roundw
          case rel => exact ⟨k + 1, by omega, by go_num, by rw [HN.out], HALL.out, hbx⟩
          case measure => simp [intOf]; omega
    · have hkl : k = l.length := by omega
      subst hkl
      have hyes : Ve.fmd l = true := (Ve.fmd_iff l).2 HEQ.out
      have HY := Lib.hid hyes
      clear hyes
      go_wp2
      go_ret
      exact ⟨by rw [HY.out]; rfl, hbw⟩

end Go.Proofs.Ytcfkpjbakccgiaa
