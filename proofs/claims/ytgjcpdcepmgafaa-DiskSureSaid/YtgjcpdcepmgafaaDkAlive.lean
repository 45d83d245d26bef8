/-
  What stands in all laws of disk: a fixed fact.
-/
import Derived.Test.YtgjcpdcepmgafaaDkRApp
import Derived.Test.YtgjcpdcepmgafaaDkRefD
import Derived.Lib.SlBytesConst
namespace Go.Proofs.Ytgjcpdcepmgafaa
open Go.RowKit

theorem GivesDE.open {room k : Int} {fs : List Fi} {w w' : World} {e : Ending} (h : GivesDE (room, fs, k) w e w') :
    ∃ A c L, e = .returned (.tuple #[.agg #[.int .i64 room, .slice A (List.length L) c], .int .i64 k]) ∧ OwnD w' w.heap.size 43 5 (.slice A (List.length L) c) L ∧ L.map Fc.fi = fs ∧ Below w.heap.size w w' := by
  obtain ⟨v, L, rfl, hO, h1, h2⟩ := h
  obtain ⟨A, c, rfl, -⟩ := hO.one
  exact ⟨A, c, L, rfl, hO, h1, h2⟩
theorem GivesDO.open {room k : Int} {fs : List Fi} {w w' : World} {e : Ending} (h : GivesDO (room, fs, k) w e w') :
    ∃ A c L, e = .returned (.tuple #[.agg #[.int .i64 room, .slice A (List.length L) c], .int .i64 k]) ∧ OneD w' A c L ∧ L.map Fc.fi = fs ∧ Below w.heap.size w w' := h
/-- The bytes of a constant, where they are laid. -/
theorem OneB.const (w : World) (t : TypeId) (fr : Nat × Nat) (l : List Int) (hl : l.length ≤ maxLen) (hb : ∀ x ∈ l, isB x) : OneB (w.alloc (.cells (bCells l).toArray t fr)) (some ⟨w.heap.size, 0, none⟩) l.length l :=
  ⟨Nat.le_refl _, hl, (fun h => by cases h), (fun _ => ⟨w.heap.size, 0, rfl, fun j u hu => by
      rw [Nat.zero_add, World.cell?_alloc_mark]
      simpa using hu⟩), hb⟩

set_option maxRecDepth 100000 in
set_option maxHeartbeats 3200000 in
theorem dalive_any (w : World) : Calls Try.prog 8 #[] w (Says (.bool true) w) := by
  have kc1 : (convert 25 25 (.slice (some ⟨w.heap.size, 0, none⟩) 3 3)).run Try.prog (w.alloc (.cells #[.int .u8 97, .int .u8 98, .int .u8 99] 5)) = .ok (.slice (some ⟨w.heap.size, 0, none⟩) 3 3) (w.alloc (.cells #[.int .u8 97, .int .u8 98, .int .u8 99] 5 (3, 4))) := Lib.run_convert_bytes_const (P := Try.prog) w 25 5 #[.int .u8 97, .int .u8 98, .int .u8 99] 3 3 Try.underlying25 Try.underlying5
  have bA := below_new (Below.refl w.heap.size w) (.cells #[.int .u8 97, .int .u8 98, .int .u8 99] 5 (3, 4))
  have three := OneB.const w 5 (3, 4) [97, 98, 99] (by unfold maxLen; simp) (by intro x hx; simp at hx; unfold isB; omega)
  have n1 := dappend_any 5 1 none (some ⟨w.heap.size, 0, none⟩) 0 3 [] [97, 98, 99] _ (OneD.nil _) three
  rw [show Dk.appR 5 (([] : List Fc).map Fc.fi) 1 [97, 98, 99] = (5, [(1, [97, 98, 99], 0)], 0) from by decide +kernel] at n1
  have N1 := Lib.hid (show Calls Try.prog 10 #[.agg #[.int .i64 5, .slice none 0 0], .int .i64 1, .slice (some ⟨w.heap.size, 0, none⟩) 3 3] (w.alloc (.cells #[.int .u8 97, .int .u8 98, .int .u8 99] 5 (3, 4))) (GivesDE (5, [(1, [97, 98, 99], 0)], 0) (w.alloc (.cells #[.int .u8 97, .int .u8 98, .int .u8 99] 5 (3, 4)))) from n1)
  have BA := Lib.hid bA
  clear n1 three bA
  go_enter Try.func8, Try.ntmps8
  go_wp2_with fail
  refine N1.out.mono ?_
  intro e w1 h
  obtain ⟨A1, c1, L1, rfl, hO1, hf1, b1⟩ := h.open
  have bb1 := below_new (below_on BA.out b1) (.cells #[.int .i64 5, .slice A1 L1.length c1] 24)
  have O1 := hO1.oneD.later (below_new (Below.refl w1.heap.size w1) (.cells #[.int .i64 5, .slice A1 L1.length c1] 24))
  have Y1 := Blk.new w1 24 #[.int .i64 5, .slice A1 L1.length c1]
  have n2 := dsync_any 5 A1 c1 L1 _ O1
  rw [hf1, show Dk.synR 5 [(1, [97, 98, 99], 0)] = (5, [(1, [97, 98, 99], 3)], 0) from by decide +kernel] at n2
  have N2 := Lib.hid n2; have BB1 := Lib.hid bb1; have YH1 := Lib.hid Y1
  have hw1 : w.heap.size ≤ w1.heap.size := by have h1 := BA.out.size; have h2 := b1.size; omega
  clear h hO1 hf1 O1 n2 bb1 b1 kc1 Y1
  go_wp2_with fail
  refine N2.out.mono ?_
  intro e w2 h
  obtain ⟨A2, c2, L2, rfl, hO2, hf2, b2⟩ := h.open
  have Y2 := YH1.out.later b2
  have y0 := Y2.cell (i := 0) rfl
  have y1 := Y2.cell (i := 1) rfl
  have s0 := Y2.free 0
  have s1 := Y2.free 1
  have Y2' := Lib.hid ((Y2.put 0 (.int .i64 5)).put 1 (.slice A2 L2.length c2))
  have hsz : w1.heap.size < (w1.alloc (.cells #[.int .i64 5, .slice A1 L1.length c1] 24)).heap.size := by simp
  have O2 := Lib.hid ((hO2.low (p := ⟨w1.heap.size, 0, none⟩) (by exact hsz) (.int .i64 5)).low (p := ⟨w1.heap.size, 1, none⟩) (by exact hsz) (.slice A2 L2.length c2))
  have BB2 := Lib.hid (((below_on BB1.out b2).setCell (p := ⟨w1.heap.size, 0, none⟩) hw1 (.int .i64 5)).setCell (p := ⟨w1.heap.size, 1, none⟩) hw1 (.slice A2 L2.length c2))
  have HF2 := Lib.hid hf2
  clear h hO2 hf2 b2 Y2
  go_upto_region 3 with (fail)
  obtain ⟨W2, hW2⟩ : ∃ W2, (w2.setCell ⟨w1.heap.size, 0, none⟩ (.int .i64 5)).setCell ⟨w1.heap.size, 1, none⟩ (.slice A2 L2.length c2) = W2 := ⟨_, rfl⟩
  rw [hW2] at Y2' O2 BB2 ⊢
  have Y3 := Y2'.out
  have O3 := O2.out.oneD
  have hY3 := Y3.lt
  have d0 := Y3.cell (i := 0) rfl
  have d1 := Y3.cell (i := 1) rfl
  have kc2 : (convert 25 25 (.slice (some ⟨W2.heap.size, 0, none⟩) 2 2)).run Try.prog (W2.alloc (.cells #[.int .u8 100, .int .u8 101] 5)) = .ok (.slice (some ⟨W2.heap.size, 0, none⟩) 2 2) (W2.alloc (.cells #[.int .u8 100, .int .u8 101] 5 (2, 3))) := Lib.run_convert_bytes_const (P := Try.prog) W2 25 5 #[.int .u8 100, .int .u8 101] 2 2 Try.underlying25 Try.underlying5
  have b3 := below_new (Below.refl W2.heap.size W2) (.cells #[.int .u8 100, .int .u8 101] 5 (2, 3))
  have two := OneB.const W2 5 (2, 3) [100, 101] (by unfold maxLen; simp) (by intro x hx; simp at hx; unfold isB; omega)
  have n3 := dappend_any 5 1 A2 (some ⟨W2.heap.size, 0, none⟩) c2 2 L2 [100, 101] _ (O3.later b3) two
  rw [HF2.out, show Dk.appR 5 [(1, [97, 98, 99], 3)] 1 [100, 101] = (5, [(1, [97, 98, 99, 100, 101], 3)], 0) from by decide +kernel] at n3
  have N3 := Lib.hid (show Calls Try.prog 10 #[.agg #[.int .i64 5, .slice A2 L2.length c2], .int .i64 1, .slice (some ⟨W2.heap.size, 0, none⟩) 2 2] (W2.alloc (.cells #[.int .u8 100, .int .u8 101] 5 (2, 3))) (GivesDE (5, [(1, [97, 98, 99, 100, 101], 3)], 0) (W2.alloc (.cells #[.int .u8 100, .int .u8 101] 5 (2, 3)))) from n3)
  have YH3 := Lib.hid (Y3.later b3); have BB3 := Lib.hid (below_on BB2.out b3)
  have hs3 := b3.size
  clear hW2 Y2' O2 O3 Y3 n3 two b3 HF2 y0 y1 s0 s1 hsz
  go_wp2_with fail
  refine N3.out.mono ?_
  intro e w4 h
  obtain ⟨A4, c4, L4, rfl, hO4, hf4, b4⟩ := h.open
  have Y4 := YH3.out.later b4
  have y0 := Y4.cell (i := 0) rfl
  have y1 := Y4.cell (i := 1) rfl
  have s0 := Y4.free 0
  have s1 := Y4.free 1
  have Y4' := Lib.hid ((Y4.put 0 (.int .i64 5)).put 1 (.slice A4 L4.length c4))
  have O4 := Lib.hid ((hO4.low (p := ⟨w1.heap.size, 0, none⟩) (by show w1.heap.size < _; omega) (.int .i64 5)).low (p := ⟨w1.heap.size, 1, none⟩) (by show w1.heap.size < _; omega) (.slice A4 L4.length c4))
  have BB4 := Lib.hid (((below_on BB3.out b4).setCell (p := ⟨w1.heap.size, 0, none⟩) hw1 (.int .i64 5)).setCell (p := ⟨w1.heap.size, 1, none⟩) hw1 (.slice A4 L4.length c4))
  have HF4 := Lib.hid hf4
  have hs4 := b4.size
  clear h hO4 hf4 b4 Y4 d0 d1 kc2
  go_upto_region 4 with (fail)
  obtain ⟨W4, hW4⟩ : ∃ W4, (w4.setCell ⟨w1.heap.size, 0, none⟩ (.int .i64 5)).setCell ⟨w1.heap.size, 1, none⟩ (.slice A4 L4.length c4) = W4 := ⟨_, rfl⟩
  have hW4s : W4.heap.size = w4.heap.size := by rw [← hW4]; simp
  rw [hW4] at Y4' O4 BB4 ⊢
  have Y5 := Y4'.out
  have O5 := O4.out.oneD
  have hY5 := Y5.lt
  have d0 := Y5.cell (i := 0) rfl
  have d1 := Y5.cell (i := 1) rfl
  have n5 := dcrash_any 5 1 0 A4 c4 L4 W4 O5 (by omega)
  rw [HF4.out, show Dk.crsR 5 [(1, [97, 98, 99, 100, 101], 3)] 1 0 = (5, [(1, [97, 98, 99, 100], 4)], 0) from by decide +kernel] at n5
  have N5 := Lib.hid n5; have YH5 := Lib.hid Y5
  clear hW4 Y4' O4 O5 Y5 n5 HF4 y0 y1 s0 s1
  go_wp2_with fail
  refine N5.out.mono ?_
  intro e w6 h
  obtain ⟨A6, c6, L6, rfl, hO6, hf6, b6⟩ := h.open
  have Y6 := YH5.out.later b6
  have y0 := Y6.cell (i := 0) rfl
  have y1 := Y6.cell (i := 1) rfl
  have s0 := Y6.free 0
  have s1 := Y6.free 1
  obtain ⟨f, rfl⟩ : ∃ f, L6 = [f] := by
    have hl := congrArg List.length hf6
    rw [List.length_map] at hl
    match L6, hl with
    | [f], _ => exact ⟨f, rfl⟩
  have hff : f.fi = (1, [97, 98, 99, 100], 4) := by simpa using hf6
  have hfl : f.l = [97, 98, 99, 100] := congrArg (·.2.1) hff
  have Y6' := Lib.hid ((Y6.put 0 (.int .i64 5)).put 1 (.slice A6 1 c6))
  have O6 := Lib.hid ((hO6.low (p := ⟨w1.heap.size, 0, none⟩) (by show w1.heap.size < _; omega) (.int .i64 5)).low (p := ⟨w1.heap.size, 1, none⟩) (by show w1.heap.size < _; omega) (.slice A6 1 c6))
  have BB6 := Lib.hid (((below_on BB4.out b6).setCell (p := ⟨w1.heap.size, 0, none⟩) hw1 (.int .i64 5)).setCell (p := ⟨w1.heap.size, 1, none⟩) hw1 (.slice A6 1 c6))
  have HFL := Lib.hid hfl
  clear h hO6 hf6 b6 Y6 d0 d1 hff hfl
  go_upto_region 5 with (fail)
  obtain ⟨W6, hW6⟩ : ∃ W6, (w6.setCell ⟨w1.heap.size, 0, none⟩ (.int .i64 5)).setCell ⟨w1.heap.size, 1, none⟩ (.slice A6 1 c6) = W6 := ⟨_, rfl⟩
  have hgo : (w6.setCell ⟨w1.heap.size, 0, none⟩ (.int .i64 5)).setCell ⟨w1.heap.size, 1, none⟩ (.slice A6 [f].length c6) = W6 := hW6
  try rw [hgo]
  try rw [hW6]
  rw [hW6] at Y6' O6 BB6
  have Y7 := Y6'.out
  have d1 := Y7.cell (i := 1) rfl
  obtain ⟨g, cap, hgv⟩ := own_len O6.out.row (by simp)
  injection hgv with hV h2 h3
  subst hV h3
  have q := own_row_cells O6.out.row rfl (i := 0) (f := f) rfl
  obtain ⟨-, q1, -⟩ := q
  rw [HFL.out] at q1
  have q1' : W6.cell? ⟨g, 1, none⟩ = some (.slice f.X 4 f.c) := by simpa using q1
  have hcap := O6.out.oneD.le
  have hcm := O6.out.oneD.cap
  unfold maxLen at hcm
  have hob := (O6.out.each f (by simp)).one
  rw [HFL.out] at hob
  have kt := hob.text (P := Try.prog) Try.underlying25 Try.underlying5 Try.underlying9
  have kt2 : (convert 25 9 (.slice f.X 4 f.c)).run Try.prog W6 = .ok (.string { data := #[97, 98, 99, 100] }) W6 := kt
  clear hW6 hgo Y6' O6 Y7 q1 hob kt HFL y0 y1 s0 s1 h2
  go_wp2
  go_ret
  exact ⟨rfl, BB6.out⟩
end Go.Proofs.Ytgjcpdcepmgafaa
