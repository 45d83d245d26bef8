/-
  What the landed cache's helpers answer: slices.Clone at bytes, isObject, formedBody, own, Used.
-/
import Derived.Test.YtmccednfaemiaaaCaSpec
import Derived.Test.YtmccednfaemiaaaStampRight
import Derived.Lib.SliceRun
import Derived.Lib.Walk
namespace Go.Proofs.Ytmccednfaemiaaa
open Go.RowKit

set_option maxHeartbeats 800000 in
theorem scloneB_any (A : Option Addr) (c1 : Nat) (l : List Int) (w : World) (hl : l.length ≤ 140737488355328) (h1 : OneB w A c1 l) :
    Calls Try.prog 25 #[.slice A l.length c1] w (GivesB l w) := by
  obtain ⟨i0, hi, hz0, hz1, hz2⟩ := info_parts infoBy
  cases A with
  | none =>
    obtain ⟨h0, hc⟩ := h1.noA rfl
    have hl0 : l = [] := List.eq_nil_of_length_eq_zero h0
    subst hl0
    subst hc
    clear h1
    have heq := fun wx => Lib.run_eql_slice_nil (P := Try.prog) wx 28 5 none 0 0 0 0 Try.underlying28
    go_enter Try.func25, Try.ntmps25
    go_wp2
    go_ret
    exact ⟨_, rfl, ⟨rfl, .inl ⟨rfl, rfl⟩⟩, Below.refl _ _⟩
  | some a =>
    have hown : (w.alloc (.cells #[] 5)).ownsRow w.heap.size 5 1 (.slice (some ⟨w.heap.size, 0, none⟩) 0 0) 0 [] :=
      ⟨rfl, .inr ⟨w.heap.size, 0, #[], rfl, Nat.le_refl _, heap_alloc_new w _, Nat.le_refl _, Nat.zero_le _, rfl, rfl⟩⟩
    have HA := Lib.hid h1.noA
    have heq := fun wx => Lib.run_eql_slice_nil (P := Try.prog) wx 28 5 (some a) l.length c1 0 0 Try.underlying28
    go_enter Try.func25, Try.ntmps25
    go_wp2_with (at_builtin; refine wpList_append_lies _ rfl _ _ 28 rfl w.heap.size 5 i0 (.int .u8 0) 1 1 Try.underlying28 hi hz0 hz1 hz2 rfl (by decide) _ 0 [] rfl hown (some a) l.length c1 HA.out (bCells l) rfl (by rw [bCells_length, Nat.mul_one]) (h1.lies.alloc _) (bCells_one l) ?c3 ?c4 ?c5 ?_)
    case c3 => unfold maxLen; omega
    case c4 => omega
    case c5 => simp
    intro v' w1 hown1 hg1 _
    have hbw : Below w.heap.size w w1 := (below_new (Below.refl _ _) (.cells #[] 5)).grown hg1 (by simp) (by intro k hk; simp [Value.ownBlock] at hk; omega)
    try simp only [Nat.zero_add, List.nil_append] at hown1
    have HO := Lib.hid hown1
    clear hown hown1 hg1
    go_wp2
    go_ret
    exact ⟨_, rfl, HO.out, hbw⟩

theorem cdisObject_any (o : Int) (w : World) : Calls Try.prog 30 #[.int .i64 o] w fun e w' => e = .returned (.bool (decide (0 ≤ o) && decide (o ≤ 255))) ∧ w = w' := by
  by_cases h0 : 0 ≤ o
  · by_cases h1 : o < 256
    · rw [show (decide (0 ≤ o) && decide (o ≤ 255)) = true from by rw [decide_eq_true h0, decide_eq_true (show o ≤ 255 by omega)]; rfl]
      go_enter Try.func30, Try.ntmps30
      go_wp2
      go_ret
      exact ⟨rfl, rfl⟩
    · rw [show (decide (0 ≤ o) && decide (o ≤ 255)) = false from by rw [decide_eq_true h0, decide_eq_false (show ¬ o ≤ 255 by omega)]; rfl]
      go_enter Try.func30, Try.ntmps30
      go_wp2
      go_ret
      exact ⟨rfl, rfl⟩
  · rw [show (decide (0 ≤ o) && decide (o ≤ 255)) = false from by rw [decide_eq_false h0]; rfl]
    go_enter Try.func30, Try.ntmps30
    go_wp2
    go_ret
    exact ⟨rfl, rfl⟩

set_option maxHeartbeats 3200000 in
theorem cdformedBody_any (D : Option Addr) (d : Nat) (x : Bd) (w : World) :
    Calls Try.prog 28 #[.agg (bdCells D d x)] w (Says (.bool (Wi.bright x)) w) := by
  obtain ⟨o, c, n, l⟩ := x
  unfold bdCells
  simp only
  obtain ⟨W, hW⟩ : ∃ W, w.alloc (.cells #[.int .i64 o, .int .i64 c, .int .i64 n, .slice D l.length d] 38) = W := ⟨_, rfl⟩
  have hb0 : Below w.heap.size w W := by rw [← hW]; exact below_new (Below.refl _ _) _
  have hB0 : Blk W w.heap.size 38 #[.int .i64 o, .int .i64 c, .int .i64 n, .slice D l.length d] := by rw [← hW]; exact Blk.new w _ _
  have c0 := hB0.cell (i := 0) rfl
  have c1 := hB0.cell (i := 1) rfl
  have c2 := hB0.cell (i := 2) rfl
  have c3 := hB0.cell (i := 3) rfl
  have hR := Lib.hid (show Wi.bright ⟨o, c, n, l⟩ = (decide (0 ≤ o) && (decide (o ≤ 255) && (St.rgt c n && decide (l.length ≤ 256)))) from rfl)
  have HW := Lib.hid hW
  have NR := Lib.hid (right_any c n W)
  obtain ⟨rg, hrg⟩ : ∃ rg, St.rgt c n = rg := ⟨_, rfl⟩
  obtain ⟨ob, hob⟩ : ∃ ob, (decide (0 ≤ o) && decide (o ≤ 255)) = ob := ⟨_, rfl⟩
  have NO := Lib.hid (cdisObject_any o W)
  have hR2 := Lib.hid (show Wi.bright ⟨o, c, n, l⟩ = (ob && (rg && decide (l.length ≤ 256))) from by rw [hR.out, ← hob, ← hrg, Bool.and_assoc])
  rw [hrg] at NR
  rw [hob] at NO
  clear hW hrg hob hR
  cases ob with
  | true =>
    cases rg with
    | true =>
      go_enter Try.func28, Try.ntmps28
      go_wp2_with fail
      rw [HW.out]
      refine NO.out.mono ?_
      rintro e w0 ⟨rfl, rfl⟩
      go_wp2_with fail
      refine NR.out.mono ?_
      rintro e w1 ⟨rfl, b1⟩
      have e3 := cell_later b1 c3
      clear c0 c1 c2 c3
      by_cases h3 : l.length ≤ 256
      · have d3 : decide ((l.length : Int) ≤ 256) = true := decide_eq_true (by omega)
        go_wp2
        go_ret
        exact ⟨by rw [hR2.out, decide_eq_true h3]; first | rfl | simp, below_on hb0 b1⟩
      · have d3 : decide ((l.length : Int) ≤ 256) = false := decide_eq_false (by omega)
        go_wp2
        go_ret
        exact ⟨by rw [hR2.out, decide_eq_false h3]; first | rfl | simp, below_on hb0 b1⟩
    | false =>
      go_enter Try.func28, Try.ntmps28
      go_wp2_with fail
      rw [HW.out]
      refine NO.out.mono ?_
      rintro e w0 ⟨rfl, rfl⟩
      go_wp2_with fail
      refine NR.out.mono ?_
      rintro e w1 ⟨rfl, b1⟩
      go_wp2
      go_ret
      exact ⟨by rw [hR2.out]; first | rfl | simp, below_on hb0 b1⟩
  | false =>
    go_enter Try.func28, Try.ntmps28
    go_wp2_with fail
    rw [HW.out]
    refine NO.out.mono ?_
    rintro e w0 ⟨rfl, rfl⟩
    go_wp2
    go_ret
    exact ⟨by rw [hR2.out]; first | rfl | simp, hb0⟩

set_option maxRecDepth 100000 in
set_option maxHeartbeats 3200000 in
theorem cdown_any (X : Option Addr) (d : Nat) (x : Bd) (w : World) (hz : x.v.length ≤ 140737488355328) (h : OneB w X d x.v) :
    Calls Try.prog 27 #[.agg (bdCells X d x)] w (GivesBd x w) := by
  obtain ⟨x0, x1, x2, vl⟩ := x
  unfold bdCells
  dsimp only at h hz ⊢
  have b0 := below_new (below_new (Below.refl w.heap.size w) (.cells #[.int .i64 x0, .int .i64 x1, .int .i64 x2, .slice X vl.length d] 38)) (.cells #[.int .i64 0, .int .i64 0, .int .i64 0, .slice none 0 0] 38)
  have B0 := (Blk.new w 38 #[.int .i64 x0, .int .i64 x1, .int .i64 x2, .slice X vl.length d]).alloc (.cells #[.int .i64 0, .int .i64 0, .int .i64 0, .slice none 0 0] 38)
  have R0 := Blk.new (w.alloc (.cells #[.int .i64 x0, .int .i64 x1, .int .i64 x2, .slice X vl.length d] 38)) 38 #[.int .i64 0, .int .i64 0, .int .i64 0, .slice none 0 0]
  rw [World.size_alloc] at R0
  obtain ⟨W, hW⟩ : ∃ W, (w.alloc (.cells #[.int .i64 x0, .int .i64 x1, .int .i64 x2, .slice X vl.length d] 38)).alloc (.cells #[.int .i64 0, .int .i64 0, .int .i64 0, .slice none 0 0] 38) = W := ⟨_, rfl⟩
  rw [hW] at b0 B0 R0
  have q3 := B0.cell (i := 3) rfl
  have HW := Lib.hid hW
  have HR := Lib.hid R0
  have HX := Lib.hid B0
  have HB := Lib.hid b0
  have NC := Lib.hid (scloneB_any X d vl W hz (h.later b0))
  have hzW := b0.size
  clear h hW B0 R0 b0
  go_enter Try.func27, Try.ntmps27
  go_upto_region 1 with (fail)
  rw [HW.out]
  go_wp2_with fail
  refine NC.out.mono ?_
  rintro e w1 ⟨u, rfl, ho, b1⟩
  obtain ⟨Y, ey, hu, -, -, -, -⟩ := own_form ho
  subst hu
  have HX1 := Lib.hid (HX.out.later b1)
  have HR1 := Lib.hid (HR.out.later b1)
  have HB1 := Lib.hid (below_on HB.out b1)
  have f3 := HX1.out.free 3
  have q3' := HX1.out.cell (i := 3) rfl
  have HO1 := Lib.hid ho
  clear ho b1 q3 HX HR HB NC
  go_upto_region 2 with (fail)
  obtain ⟨W2, hW2⟩ : ∃ W2, w1.setCell ⟨w.heap.size, 3, none⟩ (.slice Y vl.length ey) = W2 := ⟨_, rfl⟩
  rw [hW2]
  have HX2 := Lib.hid (show Blk W2 w.heap.size 38 #[.int .i64 x0, .int .i64 x1, .int .i64 x2, .slice Y vl.length ey] from by rw [← hW2]; exact HX1.out.put 3 _)
  have HR2 := Lib.hid (show Blk W2 (w.heap.size + 1) 38 #[.int .i64 0, .int .i64 0, .int .i64 0, .slice none 0 0] from by rw [← hW2]; exact HR1.out.far (by simp) _)
  have HB2 := Lib.hid (show Below w.heap.size w W2 from by rw [← hW2]; exact HB1.out.setCell (p := ⟨w.heap.size, 3, none⟩) (Nat.le_refl _) _)
  have HO2 := Lib.hid (show W2.ownsRow W.heap.size 5 1 (.slice Y vl.length ey) vl.length (bCells vl) from by
    rw [← hW2]
    refine own_stays HO1.out (fun k hk => ?_)
    have hk2 := own_ge HO1.out k hk
    have hne : k ≠ w.heap.size := by
      have h1 := HW.out
      have h2 : W.heap.size = w.heap.size + 2 := by rw [← h1, World.size_alloc, World.size_alloc]
      omega
    exact Below.heap_setCell _ _ _ _ hne)
  clear hW2 HX1 HR1 HB1 HO1 f3 q3'
  have p0 := HX2.out.cell (i := 0) rfl
  have p1 := HX2.out.cell (i := 1) rfl
  have p2 := HX2.out.cell (i := 2) rfl
  have p3 := HX2.out.cell (i := 3) rfl
  have r0 := HR2.out.cell (i := 0) rfl
  have r1 := HR2.out.cell (i := 1) rfl
  have r2 := HR2.out.cell (i := 2) rfl
  have r3 := HR2.out.cell (i := 3) rfl
  have f0 := HR2.out.free 0
  have f1 := HR2.out.free 1
  have f2 := HR2.out.free 2
  have f3 := HR2.out.free 3
  have hh : w.heap.size ≤ w.heap.size + 1 := by omega
  have HP := Lib.hid ((((HR2.out.put 0 (.int .i64 x0)).put 1 (.int .i64 x1)).put 2 (.int .i64 x2)).put 3 (.slice Y vl.length ey))
  have HQ := Lib.hid ((((HB2.out.setCell (p := ⟨w.heap.size + 1, 0, none⟩) hh (.int .i64 x0)).setCell (p := ⟨w.heap.size + 1, 1, none⟩) hh (.int .i64 x1)).setCell (p := ⟨w.heap.size + 1, 2, none⟩) hh (.int .i64 x2)).setCell (p := ⟨w.heap.size + 1, 3, none⟩) hh (.slice Y vl.length ey))
  have HOO := Lib.hid (own_base (own_stays (w' := (((W2.setCell ⟨w.heap.size + 1, 0, none⟩ (.int .i64 x0)).setCell ⟨w.heap.size + 1, 1, none⟩ (.int .i64 x1)).setCell ⟨w.heap.size + 1, 2, none⟩ (.int .i64 x2)).setCell ⟨w.heap.size + 1, 3, none⟩ (.slice Y vl.length ey)) HO2.out (fun k hk => by
    have hk2 := own_ge HO2.out k hk
    have hne : k ≠ w.heap.size + 1 := by
      have h1 := HW.out
      have h2 : W.heap.size = w.heap.size + 2 := by rw [← h1, World.size_alloc, World.size_alloc]
      omega
    exact (((Below.heap_setCell _ _ _ _ hne).trans (Below.heap_setCell _ _ _ _ hne)).trans (Below.heap_setCell _ _ _ _ hne)).trans (Below.heap_setCell _ _ _ _ hne))) hzW)
  go_wp2
  exact bodyPost_ret (v := .agg (bdCells Y ey ⟨x0, x1, x2, vl⟩)) (results_cell_row rfl _ _ (w.heap.size + 1) 38 (bdCells Y ey ⟨x0, x1, x2, vl⟩) (0, 0) _ rfl HP.out Try.underlying38 rfl infoBdz) rfl ⟨Y, ey, rfl, HOO.out, HQ.out⟩

set_option maxHeartbeats 1600000 in
theorem cdused_any (A : Option Addr) (c : Nat) (L : List Bc) (w : World) (h : OneC w A c L) (hu : Ca.used (L.map Bc.b) ≤ 4611686018427387904) :
    Calls Try.prog 13 #[.slice A L.length c] w (Says (.int .i64 (Ca.used (L.map Bc.b) : Int)) w) := by
  have hlen := h.len
  have HL := Lib.hid h
  have HU := Lib.hid (fun k => Ca.usedTo_le L k)
  have HA := Lib.hid (Ca.usedTo_all L)
  have HS := Lib.hid (fun k hk => Ca.usedTo_succ (L := L) (k := k) hk)
  obtain ⟨U, hUU⟩ : ∃ U, Ca.used (L.map Bc.b) = U := ⟨_, rfl⟩
  rw [hUU] at hu HU HA ⊢
  clear h hUU
  go_enter Try.func13, Try.ntmps13
  go_wp2_with fail
  go_loopw [3, 8] (fun s3 s8 wr => ∃ k : Nat, k ≤ L.length ∧ s8 = .int .i64 (k : Int) ∧ s3 = .int .i64 (Ca.usedTo L k : Int) ∧ Below w.heap.size w wr) (fun _ s8 _ => L.length - (intOf s8).toNat)
  case atStart => exact ⟨0, Nat.zero_le _, rfl, rfl, Below.refl _ _⟩
  case round =>
    obtain ⟨k, hk, rfl, rfl, hbw⟩ := hrel
    by_cases hlt : k < L.length
    · have hne : L ≠ [] := fun e => by subst e; simp at hlt
      obtain ⟨b, off, hA, hcs⟩ := (HL.out.later hbw).at hne
      obtain ⟨e0, e1, e2, e3⟩ := hcs k hlt
      subst hA
      have hi0 : (0 : Int) ≤ (k : Int) := by omega
      have hi1 : (k : Int) < (L.length : Int) := by omega
      have hsu := HS.out k hlt
      have hul := HU.out (k + 1)
      obtain ⟨x, hx⟩ : ∃ x, L.getD k Bc.zero = x := ⟨_, rfl⟩
      rw [hx] at e0 e1 e2 e3 hsu
      obtain ⟨X, d, ⟨x0, x1, x2, v⟩⟩ := x
      dsimp only at e0 e1 e2 e3 hsu
      obtain ⟨uk, huk⟩ : ∃ uk, Ca.usedTo L k = uk := ⟨_, rfl⟩
      rw [huk] at hsu ⊢
      obtain ⟨n, hn⟩ : ∃ n, v.length = n := ⟨_, rfl⟩
      rw [hn] at e3 hsu
      have hw1 : IntKind.i64.wrap ((uk : Int) + (n : Int)) = (uk : Int) + (n : Int) := IntWalk.i64_in _ (by omega)
      have HSU := Lib.hid hsu
      have HBB := Lib.hid (below_new hbw (.cells #[.int .i64 x0, .int .i64 x1, .int .i64 x2, .slice X n d] 38))
      clear hcs hx huk hn hsu
      go_wp2_with fail
      go_roundw
      case rel => exact ⟨k + 1, by omega, by go_num, by rw [HSU.out]; simp, HBB.out⟩
      case measure => simp [intOf]; omega
    · obtain rfl : k = L.length := by omega
      rw [HA.out]
      have HB := Lib.hid hbw
      clear hbw
      go_wp2
      go_ret
      exact ⟨rfl, HB.out⟩
end Go.Proofs.Ytmccednfaemiaaa
