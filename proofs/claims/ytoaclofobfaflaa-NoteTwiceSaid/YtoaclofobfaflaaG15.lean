/-
  What slices.Clone answers of stamps and of writes; note's outside and its closure.
  What note's Of answers.
  What a set's spans answers: the list of the set, in memory of its own.
  Plain mathematics of counted ends: how many spans hold an object, by differences at the spans' ends. Nothing of the program is imported.
-/
import Derived.Test.YtoaclofobfaflaaG14
import Derived.Test.YtoaclofobfaflaaG12
import Derived.Test.YtoaclofobfaflaaG13
import Derived.Lib.SliceRun
import Derived.Test.YtoaclofobfaflaaG11
namespace Go.Proofs.Ytoaclofobfaflaa
open Go.RowKit Fb

/-- A list of writes is answered, in memory of the call's own; what was there before is as it was. -/
def GivesW (l : List Wr) (w : World) (e : Ending) (w' : World) : Prop :=
  ∃ v, e = .returned v ∧ w'.ownsRow w.heap.size 35 4 v l.length (Nt.wrCells l) ∧ Below w.heap.size w w'
/-- The same, wherever it lies. -/
def AnsW (l : List Wr) (w : World) (e : Ending) (w' : World) : Prop := ∃ A c, e = .returned (.slice A l.length c) ∧ OneW w' A c l ∧ Below w.heap.size w w'
theorem GivesW.one {l : List Wr} {w w' : World} {e : Ending} (h : GivesW l w e w') : AnsW l w e w' := by
  obtain ⟨v, rfl, ho, hb⟩ := h
  obtain ⟨A, c, rfl, h1⟩ := OneW.of_own ho
  exact ⟨A, c, rfl, h1, hb⟩

set_option maxHeartbeats 1600000 in
theorem cloneS_any (A : Option Addr) (c : Nat) (l : List (Int × Int)) (w : World) (hl : l.length * 16 ≤ 140737488355328) (h : OneL w A c l) :
    Calls Try.prog 47 #[.slice A l.length c] w (Gives l w) := by
  obtain ⟨i0, hI, hz0, hz1, hz2⟩ := info_parts infoSt
  cases A with
  | none =>
    obtain ⟨h1, h2⟩ := h.2.2.1 rfl
    have hl0 : l = [] := List.eq_nil_of_length_eq_zero h1
    subst hl0
    subst h2
    clear h
    have hq := Lib.run_eql_slice_nil (P := Try.prog) w 22 33 none 0 0 0 0 Try.underlying22
    go_enter Try.func47, Try.ntmps47
    go_wp2
    go_ret
    exact ⟨_, rfl, ⟨rfl, .inl ⟨rfl, rfl⟩⟩, Below.refl _ _⟩
  | some a =>
    have hq := Lib.run_eql_slice_nil (P := Try.prog) w 22 33 (some a) l.length c 0 0 Try.underlying22
    have HL := Lib.hid (h.2.2.2.alloc (.cells #[] 33))
    have HB := Lib.hid (Blk.new w 33 #[])
    have b0 := below_new (Below.refl w.heap.size w) (.cells #[] 33)
    have hlen := h.len
    clear h
    go_enter Try.func47, Try.ntmps47
    go_wp2_with (at_builtin; refine wpList_append_fresh _ rfl _ _ 22 rfl w.heap.size w.heap.size 33 i0 (.agg #[.int .i64 0, .int .i64 0]) 2 16 Try.underlying22 hI hz0 hz1 hz2 rfl (by decide) rfl HB.out (Nat.le_refl _) (some a) l.length c (fun h => by cases h) (stCells l) rfl (stCells_length l) HL.out (stCells_one l) (by unfold maxLen; omega) hl ?_)
    intro v' w' ho hb
    have HO := Lib.hid ho
    clear ho
    go_wp2
    go_ret
    exact ⟨v', rfl, HO.out, below_on b0 (by rw [show (w.alloc (.cells #[] 33)).heap.size = w.heap.size + 1 from by simp]; exact hb)⟩

set_option maxHeartbeats 1600000 in
theorem cloneW_any (A : Option Addr) (c : Nat) (l : List Wr) (w : World) (hl : l.length * 32 ≤ 140737488355328) (h : OneW w A c l) :
    Calls Try.prog 79 #[.slice A l.length c] w (GivesW l w) := by
  obtain ⟨i0, hI, hz0, hz1, hz2⟩ := info_parts infoWr
  cases A with
  | none =>
    obtain ⟨h1, h2⟩ := h.2.2.1 rfl
    have hl0 : l = [] := List.eq_nil_of_length_eq_zero h1
    subst hl0
    subst h2
    clear h
    have hq := Lib.run_eql_slice_nil (P := Try.prog) w 24 35 none 0 0 0 0 Try.underlying24
    go_enter Try.func79, Try.ntmps79
    go_wp2
    go_ret
    exact ⟨_, rfl, ⟨rfl, .inl ⟨rfl, rfl⟩⟩, Below.refl _ _⟩
  | some a =>
    have hq := Lib.run_eql_slice_nil (P := Try.prog) w 24 35 (some a) l.length c 0 0 Try.underlying24
    have HL := Lib.hid (h.2.2.2.alloc (.cells #[] 35))
    have HB := Lib.hid (Blk.new w 35 #[])
    have b0 := below_new (Below.refl w.heap.size w) (.cells #[] 35)
    have hlen := h.len
    clear h
    go_enter Try.func79, Try.ntmps79
    go_wp2_with (at_builtin; refine wpList_append_fresh _ rfl _ _ 24 rfl w.heap.size w.heap.size 35 i0 (.agg #[.int .i64 0, .int .i64 0, .int .i64 0, .bool false]) 4 32 Try.underlying24 hI hz0 hz1 hz2 rfl (by decide) rfl HB.out (Nat.le_refl _) (some a) l.length c (fun h => by cases h) (Nt.wrCells l) rfl (Nt.wrCells_length l) HL.out (Nt.wrCells_one l) (by unfold maxLen; omega) hl ?_)
    intro v' w' ho hb
    have HO := Lib.hid ho
    clear ho
    go_wp2
    go_ret
    exact ⟨v', rfl, HO.out, below_on b0 (by rw [show (w.alloc (.cells #[] 35)).heap.size = w.heap.size + 1 from by simp]; exact hb)⟩

set_option maxHeartbeats 800000 in
/-- The closure: is the write's object in the blur? -/
theorem outside1_any (g : Nat) (B : Option Addr) (c : Nat) (bl : List (Int × Int)) (x : Wr) (W : World) (hB : Blk W g 23 #[.slice B bl.length c]) (h : OneL W B c bl) :
    Calls Try.prog 80 #[.agg #[.int .i64 x.1, .int .i64 x.2.1, .int .i64 x.2.2.1, .bool x.2.2.2], .pointer (some ⟨g, 0, none⟩)] W (Says (.bool (inOf bl x.2.2.1)) W) := by
  obtain ⟨x1, x2, x3, x4⟩ := x
  obtain ⟨W1, hW1⟩ : ∃ W1, W.alloc (.cells #[.int .i64 x1, .int .i64 x2, .int .i64 x3, .bool x4] 35) = W1 := ⟨_, rfl⟩
  have hbn : Below W.heap.size W W1 := by rw [← hW1]; exact below_new (Below.refl _ _) _
  have hB1 : Blk W1 W.heap.size 35 #[.int .i64 x1, .int .i64 x2, .int .i64 x3, .bool x4] := by rw [← hW1]; exact Blk.new W _ _
  have g2 := hB1.cell (i := 2) rfl
  have gb := (hB.later hbn).cell (i := 0) rfl
  have N := Lib.hid (sphas_any B c bl x3 W1 (h.later hbn))
  have HW1 := Lib.hid hW1
  have g2' := g2
  have gb' := gb
  rw [← hW1] at g2' gb'
  clear hW1 hB1 hB h
  go_enter Try.func80, Try.ntmps80
  go_wp2_with fail
  rw [HW1.out]
  refine N.out.mono ?_
  rintro e w1 ⟨rfl, b1⟩
  go_wp2
  go_ret
  exact ⟨rfl, below_on hbn b1⟩

set_option maxHeartbeats 1600000 in
theorem outside_any (V B : Option Addr) (cv cb : Nat) (ws : List Wr) (bl : List (Int × Int)) (w : World) (hl : ws.length * 32 ≤ 140737488355328) (h1 : OneW w V cv ws) (h2 : OneL w B cb bl) :
    Calls Try.prog 56 #[.slice V ws.length cv, .slice B bl.length cb] w (AnsW (ws.filter fun x => !inOf bl x.2.2.1) w) := by
  obtain ⟨W1, hW1⟩ : ∃ W1, w.alloc (.cells #[.slice B bl.length cb] 23) = W1 := ⟨_, rfl⟩
  have hbn : Below w.heap.size w W1 := by rw [← hW1]; exact below_new (Below.refl _ _) _
  have hB1 : Blk W1 w.heap.size 23 #[.slice B bl.length cb] := by rw [← hW1]; exact Blk.new w _ _
  have N := Lib.hid (cloneW_any V cv ws W1 hl (h1.later hbn))
  have hp : PredW W1 80 #[.pointer (some ⟨w.heap.size, 0, none⟩)] (fun x => inOf bl x.2.2.1) := fun W x hb => outside1_any w.heap.size B cb bl x W (hB1.later hb) ((h2.later hbn).later hb)
  have HP := Lib.hid hp
  have HW1 := Lib.hid hW1
  have eg : ∀ args w, (callFunc 80 args).run Try.prog w = .ok (.enter 80 args) w := enters_of Try.func80 (by kernel_rfl) rfl
  have EG := Lib.hid eg
  clear hW1 hp hB1 h1 h2 eg
  go_enter Try.func56, Try.ntmps56
  go_wp2_with fail
  rw [HW1.out]
  refine N.out.mono ?_
  rintro e w1 ⟨v, rfl, ho, b1⟩
  rcases ho.2 with ⟨rfl, hl0⟩ | ⟨g, cap, cur, rfl, hg, hh, hc1, hc2, _, _⟩
  · have hws : ws = [] := List.eq_nil_of_length_eq_zero hl0
    clear ho
    subst hws
    go_wp2_with fail
    refine (deleteFuncW_nil _ _ _ _).mono ?_
    rintro e w2 ⟨rfl, b2⟩
    go_wp2
    go_ret
    exact ⟨none, 0, rfl, OneW.nil, below_on hbn (below_on b1 b2)⟩
  · have hL := Lay.of_own ho
    have hglt : g < w1.heap.size := Blk.lt hh
    have D := Lib.hid (deleteFuncW_any _ _ _ EG.out W1 g 0 cap ws w1 HP.out b1 hglt hg hL hc1 (by unfold maxLen at hc2; exact hc2))
    have hcm := Lib.hid hc2
    clear hL ho hh hc2
    go_wp2_with fail
    refine D.out.mono ?_
    rintro e w2 ⟨rfl, hL2, b2⟩
    have HL2 := Lib.hid hL2
    clear hL2
    go_wp2
    go_ret
    exact ⟨_, cap, rfl, OneW.of_lay HL2.out (Nat.le_trans (List.length_filter_le _ _) hc1) hcm.out, below_on hbn b2⟩

end Go.Proofs.Ytoaclofobfaflaa
namespace Go.Proofs.Ytoaclofobfaflaa
open Go.RowKit Fb

set_option maxRecDepth 100000 in
set_option maxHeartbeats 6400000 in
theorem dnof_any (A : Option Addr) (c : Nat) (l : List (Int × Int)) (y : Wr) (w : World) (hl16 : l.length * 16 ≤ 140737488355328) (h1 : OneL w A c l) :
    Calls Try.prog 20 #[.slice A l.length c, .agg (Nt.wrArr y)] w (AnsNE (ofN l y).1 (ofN l y).2 w) := by
  obtain ⟨W, hW⟩ : ∃ W, (w.alloc (.cells (Nt.wrArr y) 35)).alloc (.cells #[.slice none 0 0, .slice none 0 0, .slice none 0 0, .slice none 0 0] 26) = W := ⟨_, rfl⟩
  have hb0 : Below w.heap.size w W := by rw [← hW]; exact below_new (below_new (Below.refl _ _) _) _
  have hB0 : Blk W w.heap.size 35 (Nt.wrArr y) := by rw [← hW]; exact (Blk.new w _ _).alloc _
  have hB1 : Blk W (w.heap.size + 1) 26 #[.slice none 0 0, .slice none 0 0, .slice none 0 0, .slice none 0 0] := by
    rw [← hW, show w.heap.size + 1 = (w.alloc (.cells (Nt.wrArr y) 35)).heap.size from by simp]
    exact Blk.new _ _ _
  obtain ⟨⟨c0, c1, c2, c3⟩, -⟩ := wr_cells hB0
  have HB1 := Lib.hid hB1
  have hL := h1.later hb0
  have N0 := Lib.hid (formed_any A c l W hL)
  have N1 := Lib.hid (fun wx => right_any y.1 y.2.1 wx)
  have N2 := Lib.hid (fun wx (hb : Below W.heap.size W wx) => has_any A c l y.1 y.2.1 wx (hL.later hb))
  have HL := Lib.hid hL
  have HT := Lib.hid (show ofN l y = if (Ve.fmd l = true ∧ St.rgt y.1 y.2.1 = true) ∧ (0 ≤ y.2.2.1 ∧ y.2.2.1 ≤ 255) ∧ hasOf l y.1 y.2.1 = false then (⟨l, Ve.joinL [l, [(y.1, y.2.1)]], [], [y]⟩, 0) else (noNote, 1) from rfl)
  obtain ⟨x0, hx0⟩ : ∃ x, Ve.fmd l = x := ⟨_, rfl⟩
  obtain ⟨x1, hx1⟩ : ∃ x, St.rgt y.1 y.2.1 = x := ⟨_, rfl⟩
  obtain ⟨x2, hx2⟩ : ∃ x, hasOf l y.1 y.2.1 = x := ⟨_, rfl⟩
  rw [hx0] at N0 HT
  rw [hx1] at N1 HT
  rw [hx2] at N2 HT
  have HW0 := Lib.hid hW
  clear hW hB0 hB1 h1 hL hx0 hx1 hx2
  have fin : ∀ w1, Below W.heap.size W w1 → ofN l y = (noNote, 1) → AnsNE (ofN l y).1 (ofN l y).2 w (.returned (.tuple #[.agg (noteCells none none none none 0 0 0 0 noNote), .int .i64 1])) ((((w1.setCell ⟨w.heap.size + 1, 0, none⟩ (.slice none 0 0)).setCell ⟨w.heap.size + 1, 1, none⟩ (.slice none 0 0)).setCell ⟨w.heap.size + 1, 2, none⟩ (.slice none 0 0)).setCell ⟨w.heap.size + 1, 3, none⟩ (.slice none 0 0)) := fun w1 hb he => by
    rw [he]
    exact ⟨_, _, _, _, _, _, _, _, rfl, noNote_at _, below_puts (below_on hb0 hb) (by omega) _ _ _ _⟩
  have FIN := Lib.hid fin
  clear fin
  have NO := Lib.hid (fun wx => nisObject_any y.2.2.1 wx)
  have HOB := Lib.hid (show (0 ≤ y.2.2.1 ∧ y.2.2.1 ≤ 255) ↔ decide (0 ≤ y.2.2.1 ∧ y.2.2.1 ≤ 255) = true from decide_eq_true_iff.symm)
  obtain ⟨xo, hxo⟩ : ∃ x, decide (0 ≤ y.2.2.1 ∧ y.2.2.1 ≤ 255) = x := ⟨_, rfl⟩
  rw [hxo] at NO HOB
  clear hxo
  have hcs : (x0 = false) ∨ (x0 = true ∧ x1 = false) ∨ (x0 = true ∧ x1 = true ∧ xo = false) ∨ (x0 = true ∧ x1 = true ∧ xo = true ∧ x2 = true) ∨ (x0 = true ∧ x1 = true ∧ xo = true ∧ x2 = false) := by
    cases x0 <;> cases x1 <;> cases xo <;> cases x2 <;> simp
  rcases hcs with rfl | ⟨rfl, rfl⟩ | ⟨rfl, rfl, rfl⟩ | ⟨rfl, rfl, rfl, rfl⟩ | ⟨rfl, rfl, rfl, rfl⟩
  · have HT2 := Lib.hid (HT.out.trans (if_neg (fun h => by cases h.1.1)))
    go_enter Try.func20, Try.ntmps20
    go_wp2_with fail
    rw [HW0.out]
    refine N0.out.mono ?_
    rintro e w1 ⟨rfl, b1⟩
    have hq := HB1.out.later b1
    obtain ⟨⟨z0, z1, z2, z3⟩, r0, r1, r2, r3⟩ := nt_cells hq
    have HQ := Lib.hid hq
    clear hq
    go_wp2
    exact bodyPost_ret (results_cell_tmp (p := 4) (t1 := 5) (ty := 26) rfl _ _ (w.heap.size + 1) 26 (noteCells none none none none 0 0 0 0 noNote) _ rfl (nt_puts HQ.out none none none none 0 0 0 0 noNote) Try.underlying26 rfl infoNt) rfl (FIN.out _ b1 HT2.out)
  · have HT2 := Lib.hid (HT.out.trans (if_neg (fun h => by cases h.1.2)))
    go_enter Try.func20, Try.ntmps20
    go_wp2_with fail
    rw [HW0.out]
    refine N0.out.mono ?_
    rintro e w1 ⟨rfl, b1⟩
    have m0 := cell_later b1 c0
    have m1 := cell_later b1 c1
    go_wp2_with fail
    refine (N1.out _).mono ?_
    rintro e w2 ⟨rfl, b2⟩
    have bb2 := below_on b1 b2
    have hq := HB1.out.later bb2
    obtain ⟨⟨z0, z1, z2, z3⟩, r0, r1, r2, r3⟩ := nt_cells hq
    have HQ := Lib.hid hq
    clear hq
    go_wp2
    exact bodyPost_ret (results_cell_tmp (p := 4) (t1 := 5) (ty := 26) rfl _ _ (w.heap.size + 1) 26 (noteCells none none none none 0 0 0 0 noNote) _ rfl (nt_puts HQ.out none none none none 0 0 0 0 noNote) Try.underlying26 rfl infoNt) rfl (FIN.out _ bb2 HT2.out)
  · have HT2 := Lib.hid (HT.out.trans (if_neg (fun h => by have := HOB.out.1 h.2.1; cases this)))
    go_enter Try.func20, Try.ntmps20
    go_wp2_with fail
    rw [HW0.out]
    refine N0.out.mono ?_
    rintro e w1 ⟨rfl, b1⟩
    have m0 := cell_later b1 c0
    have m1 := cell_later b1 c1
    go_wp2_with fail
    refine (N1.out _).mono ?_
    rintro e w2 ⟨rfl, b2⟩
    have bb2 := below_on b1 b2
    have m2 := cell_later bb2 c2
    go_wp2_with fail
    refine (NO.out _).mono ?_
    rintro e w3 ⟨rfl, b3⟩
    have bb3 := below_on bb2 b3
    have hq := HB1.out.later bb3
    obtain ⟨⟨z0, z1, z2, z3⟩, r0, r1, r2, r3⟩ := nt_cells hq
    have HQ := Lib.hid hq
    clear hq
    go_wp2
    exact bodyPost_ret (results_cell_tmp (p := 4) (t1 := 5) (ty := 26) rfl _ _ (w.heap.size + 1) 26 (noteCells none none none none 0 0 0 0 noNote) _ rfl (nt_puts HQ.out none none none none 0 0 0 0 noNote) Try.underlying26 rfl infoNt) rfl (FIN.out _ bb3 HT2.out)
  · have HT2 := Lib.hid (HT.out.trans (if_neg (fun h => by cases h.2.2)))
    go_enter Try.func20, Try.ntmps20
    go_wp2_with fail
    rw [HW0.out]
    refine N0.out.mono ?_
    rintro e w1 ⟨rfl, b1⟩
    have m0 := cell_later b1 c0
    have m1 := cell_later b1 c1
    go_wp2_with fail
    refine (N1.out _).mono ?_
    rintro e w2 ⟨rfl, b2⟩
    have bb2 := below_on b1 b2
    have m2 := cell_later bb2 c2
    go_wp2_with fail
    refine (NO.out _).mono ?_
    rintro e w3 ⟨rfl, b3⟩
    have bb3 := below_on bb2 b3
    have m00 := cell_later bb3 c0
    have m11 := cell_later bb3 c1
    go_wp2_with fail
    refine (N2.out _ bb3).mono ?_
    rintro e w4 ⟨rfl, b4⟩
    have bb4 := below_on bb3 b4
    have hq := HB1.out.later bb4
    obtain ⟨⟨z0, z1, z2, z3⟩, r0, r1, r2, r3⟩ := nt_cells hq
    have HQ := Lib.hid hq
    clear hq
    go_wp2
    exact bodyPost_ret (results_cell_tmp (p := 4) (t1 := 5) (ty := 26) rfl _ _ (w.heap.size + 1) 26 (noteCells none none none none 0 0 0 0 noNote) _ rfl (nt_puts HQ.out none none none none 0 0 0 0 noNote) Try.underlying26 rfl infoNt) rfl (FIN.out _ bb4 HT2.out)
  · have HT2 := Lib.hid (HT.out.trans (if_pos ⟨⟨rfl, rfl⟩, HOB.out.2 rfl, rfl⟩))
    go_enter Try.func20, Try.ntmps20
    go_wp2_with fail
    rw [HW0.out]
    refine N0.out.mono ?_
    rintro e w1 ⟨rfl, b1⟩
    have m0 := cell_later b1 c0
    have m1 := cell_later b1 c1
    go_wp2_with fail
    refine (N1.out _).mono ?_
    rintro e w2 ⟨rfl, b2⟩
    have bb2 := below_on b1 b2
    have m2 := cell_later bb2 c2
    go_wp2_with fail
    refine (NO.out _).mono ?_
    rintro e w3 ⟨rfl, b3⟩
    have bb3 := below_on bb2 b3
    have m00 := cell_later bb3 c0
    have m11 := cell_later bb3 c1
    go_wp2_with fail
    refine (N2.out _ bb3).mono ?_
    rintro e w4 ⟨rfl, b4⟩
    have bb4 := below_on bb3 b4
    go_wp2_with fail
    have p0 := cell_later bb4 c0
    have p1 := cell_later bb4 c1
    have p2 := cell_later bb4 c2
    have p3 := cell_later bb4 c3
    have hL3 := HL.out.later bb4
    have NC := Lib.hid (fun wx (hb : Below w4.heap.size w4 wx) => (cloneS_any A c l wx hl16 (hL3.later hb)).mono fun _ _ hg => hg.one)
    have NW := Lib.hid (fun wx (hb : Below w4.heap.size w4 wx) => (with_any A c l y.1 y.2.1 wx (hL3.later hb)).mono fun _ _ hg => hg.one)
    clear hL3
    refine wp_region_facts 8 (by kernel_rfl) (by kernel_rfl)
      (fun v => { tmps := #[.slice A l.length c, .agg (Nt.wrArr y), undef, .pointer (some ⟨w.heap.size, 0, none⟩), .pointer (some ⟨w.heap.size + 1, 0, none⟩), .int .i64 0, .slice A l.length c, .bool true, .bool false, .bool false, .pointer (some ⟨w.heap.size, 0, none⟩), .agg #[.int .i64 y.1, .int .i64 y.2.1], .bool true, .bool false, .bool false, .bool false, .pointer (some ⟨w.heap.size, 2, none⟩), .int .i64 y.2.2.1, .bool true, .bool false, .bool false, .bool false, .slice A l.length c, .pointer (some ⟨w.heap.size, 0, none⟩), .agg #[.int .i64 y.1, .int .i64 y.2.1], .bool false, .bool false, undef, v 0, v 1, v 2, v 3, v 4, v 5, v 6, v 7, undef], defers := [] }) (fun _ => undef)
      (fun i x wx => match i with
        | 0 => x = .slice A l.length c
        | 1 => ∃ A' c', x = .slice A' l.length c' ∧ OneL wx A' c' l
        | 2 => x = .slice A l.length c
        | 3 => x = .pointer (some ⟨w.heap.size, 0, none⟩)
        | 4 => x = .agg #[.int .i64 y.1, .int .i64 y.2.1]
        | 5 => ∃ A' c', x = .slice A' (Ve.joinL [l, [(y.1, y.2.1)]]).length c' ∧ OneL wx A' c' (Ve.joinL [l, [(y.1, y.2.1)]])
        | 6 => x = .agg #[.int .i64 y.1, .int .i64 y.2.1, .int .i64 y.2.2.1, .bool y.2.2.2]
        | 7 => ∃ A c, x = .slice A [y].length c ∧ OneW wx A c [y]
        | _ => True)
      (fun w1 w2 => Below w1.heap.size w1 w2) (fun h1 h2 => below_on h1 h2) (fun _ => Below.refl _ _) (Below.drew (Below.refl _ _)) ?stab ?step ?done
    case stab =>
      rintro i x w1 w2 h hb
      match i, h with
      | 0, h => exact h
      | 1, h => obtain ⟨A, c, h1, h2⟩ := h; exact ⟨A, c, h1, h2.later hb⟩
      | 2, h => exact h
      | 3, h => exact h
      | 4, h => exact h
      | 5, h => obtain ⟨A, c, h1, h2⟩ := h; exact ⟨A, c, h1, h2.later hb⟩
      | 6, h => exact h
      | 7, h => obtain ⟨A, c, h1, h2⟩ := h; exact ⟨A, c, h1, h2.later hb⟩
      | i + 8, _ => trivial
    case step =>
      intro i hi v w' hb hd
      match i, hi with
      | 0, _ =>
        refine wpOp_one rfl ?_
        clear hd
        go_wp2
        first | exact ⟨_, (by simp [upd]; done), Below.refl _ _, rfl⟩ | exact ⟨(by simp [upd]; done), Below.refl _ _⟩
      | 1, _ =>
        have h0 : v 0 = _ := hd 0 (List.elem_iff.1 (by kernel_rfl))
        refine wpOp_one rfl ?_
        clear hd
        rw [h0]
        go_wp2_with fail
        refine (NC.out _ hb).mono ?_
        rintro e w'' hg
        obtain ⟨A, c, rfl, ho, b⟩ := hg
        go_wp2
        exact ⟨_, (by simp [upd, h0]; done), b, A, c, rfl, ho⟩
      | 2, _ =>
        refine wpOp_one rfl ?_
        clear hd
        go_wp2
        first | exact ⟨_, (by simp [upd]; done), Below.refl _ _, rfl⟩ | exact ⟨(by simp [upd]; done), Below.refl _ _⟩
      | 3, _ =>
        refine wpOp_one rfl ?_
        clear hd
        go_wp2
        first | exact ⟨_, (by simp [upd]; done), Below.refl _ _, rfl⟩ | exact ⟨(by simp [upd]; done), Below.refl _ _⟩
      | 4, _ =>
        have h3 : v 3 = _ := hd 3 (List.elem_iff.1 (by kernel_rfl))
        refine wpOp_one rfl ?_
        clear hd
        rw [h3]
        have q0 := cell_later hb p0
        have q1 := cell_later hb p1
        go_wp2
        first | exact ⟨_, (by simp [upd, h3]; done), Below.refl _ _, rfl⟩ | exact ⟨(by simp [upd, h3]; done), Below.refl _ _⟩
      | 5, _ =>
        have h2 : v 2 = _ := hd 2 (List.elem_iff.1 (by kernel_rfl))
        have h4 : v 4 = _ := hd 4 (List.elem_iff.1 (by kernel_rfl))
        refine wpOp_one rfl ?_
        clear hd
        rw [h2, h4]
        go_wp2_with fail
        refine (NW.out _ hb).mono ?_
        rintro e w'' hg
        obtain ⟨A, c, rfl, ho, b⟩ := hg
        go_wp2
        exact ⟨_, (by simp [upd, h2, h4]; done), b, A, c, rfl, ho⟩
      | 6, _ =>
        refine wpOp_one rfl ?_
        clear hd
        have q0 := cell_later hb p0
        have q1 := cell_later hb p1
        have q2 := cell_later hb p2
        have q3 := cell_later hb p3
        go_wp2
        first | exact ⟨_, (by simp [upd]; done), Below.refl _ _, rfl⟩ | exact ⟨(by simp [upd]; done), Below.refl _ _⟩
      | 7, _ =>
        have h6 : v 6 = _ := hd 6 (List.elem_iff.1 (by kernel_rfl))
        refine wpOp_one rfl ?_
        clear hd
        rw [h6]
        have hz := hb.size
        go_wp2
        exact ⟨_, (by simp [upd, h6]; done), below_new (Below.refl _ _) _, some ⟨w'.heap.size, 0, none⟩, 1, rfl, one_write (Blk.new w' _ _)⟩
    case done =>
      intro v w' hb hf
      obtain ⟨A2, k2, h2, o2⟩ := hf 1 (by omega)
      obtain ⟨A5, k5, h5, o5⟩ := hf 5 (by omega)
      obtain ⟨A7, k7, h7, o7⟩ := hf 7 (by omega)
      have HO := Lib.hid (show NoteAt w' A2 A5 none A7 k2 k5 0 k7 ⟨l, Ve.joinL [l, [(y.1, y.2.1)]], [], [y]⟩ from NoteAt.mk o2 o5 OneL.nil o7)
      have hB := HB1.out.later (below_on bb4 hb)
      have hbw := below_on hb0 (below_on bb4 hb)
      clear o2 o5 o7 hf
      simp only [List.drop_succ_cons, List.drop_zero]
      rw [h2, h5, h7]
      obtain ⟨⟨z0, z1, z2, z3⟩, r0, r1, r2, r3⟩ := nt_cells hB
      go_wp2
      have hN4 := HO.out.puts hB ⟨rfl, rfl, rfl, rfl⟩ (.slice A2 l.length k2) (.slice A5 (Ve.joinL [l, [(y.1, y.2.1)]]).length k5) (.slice none 0 0) (.slice A7 1 k7) ⟨rfl, rfl, rfl⟩
      refine bodyPost_ret (results_cell_tmp (p := 4) (t1 := 5) (ty := 26) rfl _ _ (w.heap.size + 1) 26 (noteCells A2 A5 none A7 k2 k5 0 k7 ⟨l, Ve.joinL [l, [(y.1, y.2.1)]], [], [y]⟩) _ rfl (nt_puts hB A2 A5 none A7 k2 k5 0 k7 ⟨l, Ve.joinL [l, [(y.1, y.2.1)]], [], [y]⟩) Try.underlying26 rfl infoNt) rfl ?_
      rw [HT2.out]
      exact ⟨_, _, _, _, _, _, _, _, rfl, hN4, below_puts hbw (by omega) _ _ _ _⟩

end Go.Proofs.Ytoaclofobfaflaa
namespace Go.Proofs.Ytoaclofobfaflaa
open Go.RowKit Fb

theorem infoSet : (Try.prog.info? 88).map (·.size) = some 256 := by kernel_rfl

/-- One of 256 marks, by its place. -/
theorem index_set (f : Nat → Bool) (k : Nat) (hk : k < 256) (w : World) : (Instr.index 88 (.agg (Sp.arr f)) (.int .i64 (k : Int))).run Try.prog w = .ok (.bool (f k)) w := by
  have h1 := Sp.arr_get f k hk
  simp [Instr.index, asIntOf, run_underlying Try.underlying88, part, Try.isAgg4, Try.sizeOf4, h1]
  intro h
  exact absurd h (by omega)

set_option maxRecDepth 100000 in
set_option maxHeartbeats 3200000 in
theorem spans_any (f : Nat → Bool) (w : World) : Calls Try.prog 75 #[.agg (Sp.arr f)] w (GivesS (Sp.ofL f) w) := by
  obtain ⟨i0, hi, hz0, hz1, hz2⟩ := info_parts infoSp
  go_enter Try.func75, Try.ntmps75
  go_wp2_with (refine wpList_load_row rfl 88 _ rfl w.heap.size rfl 88 (Sp.arr f) (0, 0) _ (Blk.new w 88 (Sp.arr f)) Try.underlying88 rfl (by rw [Sp.arr_size]; exact infoSet) ?_)
  go_loopw [3, 7] (fun s3 s4 wr => ∃ k : Nat, k ≤ 256 ∧ s4 = .int .i64 (k : Int) ∧ wr.ownsRow (w.heap.size + 1) 50 2 s3 (Sp.ofTo f k).length (stCells (Sp.ofTo f k)) ∧ Blk wr w.heap.size 88 (Sp.arr f) ∧ Below w.heap.size w wr) (fun _ s4 _ => 256 - (intOf s4).toNat)
  case atStart => exact ⟨0, by omega, rfl, ⟨rfl, .inl ⟨rfl, rfl⟩⟩, Blk.new _ _ _, below_new (Below.refl _ _) _⟩
  case round =>
    obtain ⟨k, hk, rfl, hown, hB, hbw⟩ := hrel
    by_cases hlt : k < 256
    · have hix := fun w => index_set f k hlt w
      have hi0 : (0 : Int) ≤ (k : Int) := by omega
      have hi1 : (k : Int) < 256 := by omega
      have hln : (Sp.ofTo f k).length ≤ 256 := by have := Sp.ofTo_short f k; omega
      have hsz := hbw.size
      have HB := Lib.hid hB
      have hst := Sp.ofTo.eq_2 f k
      have his := (Sp.ofTo_is f k).2.2.1
      cases hp : f k
      · rw [hp] at hix hst
        have HST := Lib.hid (hst.trans (if_neg (by simp)))
        have HO := Lib.hid hown
        clear hown hst hp hB his
        go_wp2_with fail
        go_roundw
        case rel => exact ⟨k + 1, by omega, by go_num, by rw [HST.out]; exact HO.out, HB.out, hbw⟩
        case measure => simp [intOf]; omega
      · rw [hp] at hix hst
        rw [if_pos rfl] at hst
        by_cases hq : 0 < k ∧ f (k - 1) = true
        · rw [if_pos hq] at hst
          obtain ⟨hl0, _⟩ := his hq.1 hq.2
          obtain ⟨m, rfl⟩ : ∃ m, k = m + 1 := ⟨k - 1, by omega⟩
          have c1 := hB.marks_cell m (by omega)
          replace hix : ∀ w, (Instr.index 88 (.agg (Sp.arr f)) (.int .i64 ((m : Int) + 1))).run Try.prog w = .ok (.bool true) w := fun w => hix w
          have hfm : f m = true := hq.2
          rw [hfm] at c1
          have hm1 : ((m + 1 : Nat) : Int) - 1 = (m : Int) := by omega
          have hm0 : (0 : Int) ≤ (m : Int) := by omega
          have hm2 : (m : Int) < 256 := by omega
          have hg : decide (((m + 1 : Nat) : Int) > 0) = true := decide_eq_true (by omega)
          obtain ⟨g, cap, rfl⟩ := own_len hown hl0
          obtain ⟨hg1, hg2⟩ := own_base_le hown
          have hrc := reach_cells _ hl0 ((m + 1 : Nat) : Int)
          have hrl := Sp.reach_len _ ((m + 1 : Nat) : Int) hl0
          obtain ⟨L, hL⟩ : ∃ L, Sp.ofTo f (m + 1) = L := ⟨_, rfl⟩
          rw [hL] at hown hrc hrl hst hl0 hln
          obtain ⟨q, hq1⟩ : ∃ q, L.length = q + 1 := ⟨L.length - 1, by omega⟩
          have hcl := own_cell_at hown (i := q * 2 + 1) (stCells_get L q (by omega)).2
          have hfr := own_free_at hown (q * 2 + 1)
          have hpt := own_put hown (q * 2 + 1) (.int .i64 ((m + 1 : Nat) : Int))
          rw [hq1, show q + 1 - 1 = q from rfl] at hrc
          rw [hrc] at hpt
          rw [← hst] at hpt hrl
          rw [← hrl] at hpt
          have hq2 : ((q + 1 : Nat) : Int) - 1 = (q : Int) := by omega
          have hq3 : (0 : Int) ≤ (q : Int) := by omega
          have hq4 : (q : Int) < ((q + 1 : Nat) : Int) := by omega
          have hB2 := Lib.hid (HB.out.far (p := ⟨g, q * 2 + 1, none⟩) (by show w.heap.size ≠ g; omega) (.int .i64 ((m + 1 : Nat) : Int)))
          have hb2 := hbw.setCell (p := ⟨g, q * 2 + 1, none⟩) (by show w.heap.size ≤ g; omega) (.int .i64 ((m + 1 : Nat) : Int))
          rw [hrl, hq1] at hpt
          rw [hL, hq1]
          have HPT := Lib.hid hpt
          have HRL := Lib.hid (hrl.trans hq1)
          clear hpt hrc hst hown hB hq hp hfm hL his hl0
          go_wp2_with fail
          go_roundw
          case rel => exact ⟨m + 1 + 1, by omega, by go_num, by rw [HRL.out]; exact HPT.out, hB2.out, hb2⟩
          case measure => simp [intOf]; omega
        · have hgd : 0 < k → f (k - 1) = false := fun h0 => by
            cases hf : f (k - 1) with
            | false => rfl
            | true => exact absurd ⟨h0, hf⟩ hq
          rw [if_neg hq] at hst
          have HST := Lib.hid hst
          cases k with
          | zero =>
            replace hix : ∀ w, (Instr.index 88 (.agg (Sp.arr f)) (.int .i64 0)).run Try.prog w = .ok (.bool true) w := fun w => hix w
            clear hst hq hp hB his
            go_wp2_with (at_builtin; refine wpList_append_lies _ rfl _ _ 23 rfl (w.heap.size + 1) 50 i0 (.agg #[.int .i64 0, .int .i64 0]) 2 16 Try.underlying23 hi hz0 hz1 hz2 rfl (by decide) _ (Sp.ofTo f 0).length (stCells (Sp.ofTo f 0)) rfl (hown.alloc _) (some ⟨wr.heap.size, 0, none⟩) 1 1 (fun h => by cases h) (stCells [(0, 0)]) rfl rfl ?c1 (stCells_one _) ?c3 ?c4 ?c5 ?_)
            case c1 =>
              intro _
              refine ⟨wr.heap.size, 0, rfl, fun j u hu => ?_⟩
              rw [Nat.zero_add]
              exact (Blk.new wr 50 #[.int .i64 0, .int .i64 0]).cell (by simpa [stCells] using hu)
            case c3 => unfold maxLen; omega
            case c4 => omega
            case c5 => have := HB.out.lt; simp; omega
            intro v' w1 hown1 hg1 _
            have hB1 : Blk w1 w.heap.size 88 (Sp.arr f) := (hg1.block w.heap.size (by have := HB.out.lt; simp; omega) (fun e => by have := own_ge hown _ e.symm; omega)).trans (HB.out.alloc _)
            have hb1 : Below w.heap.size w w1 := (below_new hbw _).grown hg1 (by simp; omega) (fun k' hk' => by have := own_ge hown _ hk'; omega)
            rw [← stCells_append, show (Sp.ofTo f 0).length + 1 = (Sp.ofTo f 0 ++ [(((0 : Nat) : Int), ((0 : Nat) : Int))]).length from by simp] at hown1
            have HO := Lib.hid (show w1.ownsRow _ _ _ v' _ (stCells (Sp.ofTo f 0 ++ [(((0 : Nat) : Int), ((0 : Nat) : Int))])) from hown1)
            have HB1 := Lib.hid hB1
            clear hown1 hB1 hown hg1
            go_wp2_with fail
            go_roundw
            case rel => exact ⟨0 + 1, by omega, by go_num, by rw [HST.out]; exact HO.out, HB1.out, hb1⟩
            case measure => simp [intOf]
          | succ m =>
            have c1 := hB.marks_cell m (by omega)
            replace hix : ∀ w, (Instr.index 88 (.agg (Sp.arr f)) (.int .i64 ((m : Int) + 1))).run Try.prog w = .ok (.bool true) w := fun w => hix w
            have hfm : f m = false := hgd (by omega)
            rw [hfm] at c1
            have hm1 : ((m + 1 : Nat) : Int) - 1 = (m : Int) := by omega
            have hm0 : (0 : Int) ≤ (m : Int) := by omega
            have hm2 : (m : Int) < 256 := by omega
            have hg : decide (((m + 1 : Nat) : Int) > 0) = true := decide_eq_true (by omega)
            clear hst hq hp hB his hgd hfm
            go_wp2_with (at_builtin; refine wpList_append_lies _ rfl _ _ 23 rfl (w.heap.size + 1) 50 i0 (.agg #[.int .i64 0, .int .i64 0]) 2 16 Try.underlying23 hi hz0 hz1 hz2 rfl (by decide) _ (Sp.ofTo f (m + 1)).length (stCells (Sp.ofTo f (m + 1))) rfl (hown.alloc _) (some ⟨wr.heap.size, 0, none⟩) 1 1 (fun h => by cases h) (stCells [(((m + 1 : Nat) : Int), ((m + 1 : Nat) : Int))]) rfl rfl ?c1 (stCells_one _) ?c3 ?c4 ?c5 ?_)
            case c1 =>
              intro _
              refine ⟨wr.heap.size, 0, rfl, fun j u hu => ?_⟩
              rw [Nat.zero_add]
              exact (Blk.new wr 50 #[.int .i64 ((m + 1 : Nat) : Int), .int .i64 ((m + 1 : Nat) : Int)]).cell (by simpa [stCells] using hu)
            case c3 => unfold maxLen; omega
            case c4 => omega
            case c5 => have := HB.out.lt; simp; omega
            intro v' w1 hown1 hg1 _
            have hB1 : Blk w1 w.heap.size 88 (Sp.arr f) := (hg1.block w.heap.size (by have := HB.out.lt; simp; omega) (fun e => by have := own_ge hown _ e.symm; omega)).trans (HB.out.alloc _)
            have hb1 : Below w.heap.size w w1 := (below_new hbw _).grown hg1 (by simp; omega) (fun k' hk' => by have := own_ge hown _ hk'; omega)
            rw [← stCells_append, show (Sp.ofTo f (m + 1)).length + 1 = (Sp.ofTo f (m + 1) ++ [(((m + 1 : Nat) : Int), ((m + 1 : Nat) : Int))]).length from by simp] at hown1
            have HO := Lib.hid hown1
            have HB1 := Lib.hid hB1
            clear hown1 hB1 hown hg1
            go_wp2_with fail
            go_roundw
            case rel => exact ⟨m + 1 + 1, by omega, by go_num, by rw [HST.out]; exact HO.out, HB1.out, hb1⟩
            case measure => simp [intOf]; omega
    · have hk64 : k = 256 := by omega
      subst hk64
      have HO := Lib.hid hown
      clear hown
      go_wp2
      go_ret
      exact ⟨_, rfl, own_base HO.out (by omega), hbw⟩

end Go.Proofs.Ytoaclofobfaflaa
namespace Go.Proofs.Ytoaclofobfaflaa
namespace Sp

/-- Does a span hold an object? How many of a list, of the first k lists? -/
def cvS (s : Int × Int) (o : Nat) : Int := if s.1 ≤ (o : Int) ∧ (o : Int) ≤ s.2 then 1 else 0
def cvL : List (Int × Int) → Nat → Int
  | [], _ => 0
  | s :: r, o => cvS s o + cvL r o
theorem cvS_bd (s : Int × Int) (o : Nat) : 0 ≤ cvS s o ∧ cvS s o ≤ 1 := by unfold cvS; split <;> omega
theorem cvS_pos (s : Int × Int) (o : Nat) : 0 < cvS s o ↔ s.1 ≤ (o : Int) ∧ (o : Int) ≤ s.2 := by
  unfold cvS
  by_cases h : s.1 ≤ (o : Int) ∧ (o : Int) ≤ s.2
  · rw [if_pos h]; exact ⟨fun _ => h, fun _ => by omega⟩
  · rw [if_neg h]; exact ⟨fun h2 => by omega, fun h2 => absurd h2 h⟩
theorem cvL_snoc (s : Int × Int) (o : Nat) : ∀ l, cvL (l ++ [s]) o = cvL l o + cvS s o
  | [] => by show cvS s o + 0 = 0 + cvS s o; omega
  | t :: r => by
    have := cvL_snoc s o r
    show cvS t o + cvL (r ++ [s]) o = cvS t o + cvL r o + cvS s o
    omega
theorem cvL_take (l : List (Int × Int)) (k : Nat) (h : k < l.length) (o : Nat) : cvL (l.take (k + 1)) o = cvL (l.take k) o + cvS l[k] o := by
  rw [List.take_succ_eq_append_getElem h, cvL_snoc]
theorem cvL_bd (o : Nat) : ∀ l, 0 ≤ cvL l o ∧ cvL l o ≤ (l.length : Int)
  | [] => ⟨Int.le_refl _, Int.le_refl _⟩
  | s :: r => by
    have h1 := cvL_bd o r
    have h2 := cvS_bd s o
    have e : cvL (s :: r) o = cvS s o + cvL r o := rfl
    rw [e, List.length_cons]
    omega
theorem cvL_pos (o : Nat) : ∀ l, 0 < cvL l o ↔ inL l o = true
  | [] => ⟨fun h => absurd h (Int.lt_irrefl _), fun h => by cases h⟩
  | s :: r => by
    have h1 := cvL_pos o r
    have h2 := cvS_pos s o
    have h3 := (cvL_bd o r).1
    have h4 := (cvS_bd s o).1
    have e : cvL (s :: r) o = cvS s o + cvL r o := rfl
    rw [e, inL_cons, Bool.or_eq_true, decide_eq_true_eq, ← h1, ← h2]
    omega
def cvTo (ls : List (List (Int × Int))) : Nat → Nat → Int
  | 0, _ => 0
  | k + 1, o => cvTo ls k o + cvL (ls.getD k []) o
def totTo (ls : List (List (Int × Int))) : Nat → Nat
  | 0 => 0
  | k + 1 => totTo ls k + (ls.getD k []).length
theorem totTo_cons (l : List (Int × Int)) (ls : List (List (Int × Int))) : ∀ k, totTo (l :: ls) (k + 1) = l.length + totTo ls k
  | 0 => by show 0 + l.length = l.length + 0; omega
  | k + 1 => by
    have := totTo_cons l ls k
    show totTo (l :: ls) (k + 1) + (ls.getD k []).length = l.length + (totTo ls k + (ls.getD k []).length)
    omega
theorem totTo_all : ∀ ls, totTo ls ls.length = tot ls
  | [] => rfl
  | l :: r => by
    rw [List.length_cons, totTo_cons, totTo_all r]
    simp [tot]
theorem totTo_mono (ls : List (List (Int × Int))) (k : Nat) : ∀ m, k ≤ m → totTo ls k ≤ totTo ls m
  | 0, h => by rw [Nat.le_zero.1 h]; exact Nat.le_refl _
  | m + 1, h => by
    rcases Nat.lt_or_ge m k with h1 | h1
    · rw [show k = m + 1 from by omega]; exact Nat.le_refl _
    · have := totTo_mono ls k m h1
      show totTo ls k ≤ totTo ls m + _
      omega
theorem totTo_le (ls : List (List (Int × Int))) (k : Nat) (h : k < ls.length) : totTo ls k + (ls.getD k []).length ≤ tot ls := by
  have := totTo_mono ls (k + 1) ls.length h
  rw [totTo_all] at this
  exact this
theorem cvTo_bd (ls : List (List (Int × Int))) (o : Nat) : ∀ k, 0 ≤ cvTo ls k o ∧ cvTo ls k o ≤ (totTo ls k : Int)
  | 0 => ⟨Int.le_refl _, Int.le_refl _⟩
  | k + 1 => by
    have h1 := cvTo_bd ls o k
    have h2 := cvL_bd o (ls.getD k [])
    have e : cvTo ls (k + 1) o = cvTo ls k o + cvL (ls.getD k []) o := rfl
    have e2 : totTo ls (k + 1) = totTo ls k + (ls.getD k []).length := rfl
    rw [e, e2]
    omega
theorem cvTo_pos (ls : List (List (Int × Int))) (o : Nat) : ∀ k, 0 < cvTo ls k o ↔ anyTo ls k o = true
  | 0 => ⟨fun h => absurd h (Int.lt_irrefl _), fun h => by cases h⟩
  | k + 1 => by
    have h1 := cvTo_pos ls o k
    have h2 := cvL_pos o (ls.getD k [])
    have h3 := (cvTo_bd ls o k).1
    have h4 := (cvL_bd o (ls.getD k [])).1
    have e : cvTo ls (k + 1) o = cvTo ls k o + cvL (ls.getD k []) o := rfl
    have e2 : anyTo ls (k + 1) o = (anyTo ls k o || inL (ls.getD k []) o) := rfl
    rw [e, e2, Bool.or_eq_true, ← h1, ← h2]
    omega

/-- Sums of differences. -/
def sumTo (c : Nat → Int) : Nat → Int
  | 0 => 0
  | k + 1 => sumTo c k + c k
theorem sumTo_put (c : Nat → Int) (p : Nat) (v : Int) : ∀ k, sumTo (fun j => if j = p then v else c j) k = sumTo c k + (if p < k then v - c p else 0)
  | 0 => by
    rw [if_neg (by omega)]
    show (0 : Int) = 0 + 0
    omega
  | k + 1 => by
    have h := sumTo_put c p v k
    show sumTo (fun j => if j = p then v else c j) k + (if k = p then v else c k) = sumTo c k + c k + _
    rw [h]
    by_cases e : k = p
    · rw [if_neg (by omega), if_pos e, if_pos (by omega), e]
      omega
    · rw [if_neg e]
      by_cases e2 : p < k
      · rw [if_pos e2, if_pos (by omega)]
        omega
      · rw [if_neg e2, if_neg (by omega)]
        omega
theorem sumTo_zero : ∀ k, sumTo (fun _ => 0) k = 0
  | 0 => rfl
  | k + 1 => by
    have := sumTo_zero k
    show sumTo (fun _ => 0) k + 0 = 0
    omega
/-- The differences c count g, of n spans. -/
def Dif (n : Nat) (c g : Nat → Int) : Prop := (∀ o, o < 256 → sumTo c (o + 1) = g o) ∧ ∀ j, -(n : Int) ≤ c j ∧ c j ≤ (n : Int)
theorem Dif.zero : Dif 0 (fun _ => 0) (fun _ => 0) := ⟨fun _ _ => sumTo_zero _, fun _ => ⟨Int.le_refl _, Int.le_refl _⟩⟩
theorem Dif.same {n m : Nat} {c g g' : Nat → Int} (h : Dif n c g) (hm : n ≤ m) (hg : ∀ o, o < 256 → g o = g' o) : Dif m c g' := ⟨fun o ho => (h.1 o ho).trans (hg o ho), fun j => by have := h.2 j; omega⟩
theorem Dif.step {n : Nat} {c g g' : Nat → Int} (h : Dif n c g) (p q : Nat) (hpq : p ≤ q) (hg : ∀ o, o < 256 → g' o = g o + (if p ≤ o ∧ o ≤ q then 1 else 0)) :
    Dif (n + 1) (fun j => if j = q + 1 then c (q + 1) - 1 else (if j = p then c p + 1 else c j)) g' := by
  refine ⟨fun o ho => ?_, fun j => ?_⟩
  · rw [sumTo_put (fun j => if j = p then c p + 1 else c j) (q + 1) (c (q + 1) - 1), sumTo_put c p (c p + 1), h.1 o ho, hg o ho, if_neg (show ¬ (q + 1 = p) from by omega)]
    by_cases h1 : p ≤ o
    · rw [if_pos (show p < o + 1 from by omega)]
      by_cases h2 : o ≤ q
      · rw [if_neg (show ¬ (q + 1 < o + 1) from by omega), if_pos ⟨h1, h2⟩]
        omega
      · rw [if_pos (show q + 1 < o + 1 from by omega), if_neg (fun h => h2 h.2)]
        omega
    · rw [if_neg (show ¬ (p < o + 1) from by omega), if_neg (show ¬ (q + 1 < o + 1) from by omega), if_neg (fun h => h1 h.1)]
      omega
  · have h1 := h.2 j
    have h2 := h.2 p
    have h3 := h.2 (q + 1)
    show -((n + 1 : Nat) : Int) ≤ (if j = q + 1 then c (q + 1) - 1 else (if j = p then c p + 1 else c j)) ∧ (if j = q + 1 then c (q + 1) - 1 else (if j = p then c p + 1 else c j)) ≤ ((n + 1 : Nat) : Int)
    split
    · omega
    · split <;> omega
theorem over_any (ls : List (List (Int × Int))) (o : Nat) : decide (0 < cvTo ls ls.length o) = anyTo ls ls.length o := by
  rw [Bool.eq_iff_iff, decide_eq_true_eq]
  exact cvTo_pos ls o ls.length

end Sp
end Go.Proofs.Ytoaclofobfaflaa
