/-
  What wire's formedFields and Formed answer.
  What wire's begun answers, for lists.
  A region that draws its order, whose operations may make memory, and one of which may store into what another one made. With it: what stays where a store turns a block of slices alone.
  What wire's begun answers, for messages, notes and bodies.
-/
import Derived.Test.YtbbmngabbbehcaaG26
import Derived.Test.YtbbmngabbbehcaaG20
import Derived.Lib.QuietBelow
import Derived.Test.YtbbmngabbbehcaaG04
import Derived.RangeFuncBox
import Derived.RangeFuncOwn
namespace Go.Proofs.Ytbbmngabbbehcaa
open Go.RowKit

namespace Wi
/-- Are the fields that its kind names as they must be, and all others zero? -/
def ff (m : Ms) : Bool :=
  if m.k = 1 then (decide (0 ≤ m.s) && (decide ((0 : Int) < (m.it.length : Int)) && (Sp.fmd m.it && Ve.fmd m.vc))) && nof ⟨m.k, m.f, m.t, 0, m.q, [], [], m.ns, m.bd⟩
  else if m.k = 2 then nof m
  else if m.k = 3 then (decide (0 ≤ m.s) && (decide (0 ≤ m.q) && (decide (m.ns.length ≤ 257) && m.ns.all Nt.fmd))) && nof ⟨m.k, m.f, m.t, 0, 0, m.it, m.vc, [], m.bd⟩
  else if m.k = 4 then decide (0 ≤ m.bd.o ∧ m.bd.o ≤ 255) && nof ⟨m.k, m.f, m.t, m.s, m.q, m.it, m.vc, m.ns, ⟨0, m.bd.c, m.bd.n, m.bd.v⟩⟩
  else if m.k = 5 then bright m.bd && nof ⟨m.k, m.f, m.t, m.s, m.q, m.it, m.vc, m.ns, ⟨0, 0, 0, []⟩⟩
  else false
end Wi

set_option maxRecDepth 100000 in
set_option maxHeartbeats 6400000 in
theorem dff1_any (I V N D : Option Addr) (ci cv cn d : Nat) (mf mt ms mq : Int) (mit mvc : List (Int × Int)) (mns : List Note) (mo mc mn : Int) (mv : List Int) (w : World) (h : MsAt w I V N D ci cv cn d (⟨1, mf, mt, ms, mq, mit, mvc, mns, ⟨mo, mc, mn, mv⟩⟩ : Ms)) :
    Calls Try.prog 80 #[.agg #[.int .i64 1, .int .i64 mf, .int .i64 mt, .int .i64 ms, .int .i64 mq, .slice I mit.length ci, .slice V mvc.length cv, .slice N mns.length cn, .int .i64 mo, .int .i64 mc, .int .i64 mn, .slice D mv.length d]] w (Says (.bool (Wi.ff (⟨1, mf, mt, ms, mq, mit, mvc, mns, ⟨mo, mc, mn, mv⟩⟩ : Ms))) w) := by
  obtain ⟨bx, hbx⟩ : ∃ bx, w.heap.size = bx := ⟨_, rfl⟩
  obtain ⟨W, hW⟩ : ∃ W, w.alloc (.cells #[.int .i64 1, .int .i64 mf, .int .i64 mt, .int .i64 ms, .int .i64 mq, .slice I mit.length ci, .slice V mvc.length cv, .slice N mns.length cn, .int .i64 mo, .int .i64 mc, .int .i64 mn, .slice D mv.length d] 74) = W := ⟨_, rfl⟩
  have hb0 : Below w.heap.size w W := by rw [← hW]; exact below_new (Below.refl _ _) _
  have hB0 : Blk W bx 74 #[.int .i64 1, .int .i64 mf, .int .i64 mt, .int .i64 ms, .int .i64 mq, .slice I mit.length ci, .slice V mvc.length cv, .slice N mns.length cn, .int .i64 mo, .int .i64 mc, .int .i64 mn, .slice D mv.length d] := by rw [← hW, ← hbx]; exact Blk.new w _ _
  have hle : w.heap.size ≤ bx := by omega
  have HW := Lib.hid hW; have HX := Lib.hid hbx; have HB0 := Lib.hid hb0; have HK0 := Lib.hid hB0; have H := Lib.hid h
  clear hW hbx hb0 hB0 h
  have hR := Lib.hid (show Wi.ff (⟨1, mf, mt, ms, mq, mit, mvc, mns, ⟨mo, mc, mn, mv⟩⟩ : Ms) = ((decide (0 ≤ ms) && (decide ((0 : Int) < (mit.length : Int)) && (Sp.fmd mit && Ve.fmd mvc))) && Wi.nof (⟨1, mf, mt, 0, mq, [], [], mns, ⟨mo, mc, mn, mv⟩⟩ : Ms)) from rfl)
  have NS := Lib.hid (spformed_any I ci mit W (H.out.hi.later HB0.out))
  have NV := Lib.hid (fun wx hx => formed_any V cv mvc wx ((H.out.hv.later HB0.out).later hx))
  obtain ⟨sf, hsf⟩ : ∃ q, Sp.fmd mit = q := ⟨_, rfl⟩
  obtain ⟨vf, hvf⟩ : ∃ q, Ve.fmd mvc = q := ⟨_, rfl⟩
  rw [hsf] at NS hR
  rw [hvf] at NV hR
  clear hsf hvf
  have c0 := HK0.out.cell (i := 0) rfl
  have c1 := HK0.out.cell (i := 1) rfl
  have c2 := HK0.out.cell (i := 2) rfl
  have c3 := HK0.out.cell (i := 3) rfl
  have c4 := HK0.out.cell (i := 4) rfl
  have c5 := HK0.out.cell (i := 5) rfl
  have c6 := HK0.out.cell (i := 6) rfl
  have c7 := HK0.out.cell (i := 7) rfl
  have c8 := HK0.out.cell (i := 8) rfl
  have c9 := HK0.out.cell (i := 9) rfl
  have c10 := HK0.out.cell (i := 10) rfl
  have c11 := HK0.out.cell (i := 11) rfl
  have f3 := HK0.out.free 3
  have f5 := HK0.out.free 5
  have f6 := HK0.out.free 6
  by_cases h1 : 0 ≤ ms
  · have d1 : decide (0 ≤ ms) = true := decide_eq_true h1
    by_cases h2 : (0 : Int) < (mit.length : Int)
    · have d2 : decide ((0 : Int) < (mit.length : Int)) = true := decide_eq_true h2
      have hR2 := hR.out
      rw [d1, d2] at hR2
      have HR2 := Lib.hid hR2
      clear hR2
      go_enter Try.func80, Try.ntmps80
      go_wp2_with fail
      rw [HW.out]
      try rw [HX.out]
      refine NS.out.mono ?_
      rintro e w1 ⟨rfl, b1⟩
      have NV1 := Lib.hid (NV.out w1 b1)
      have HK1 := Lib.hid (HK0.out.later b1); have HB1 := Lib.hid (below_on HB0.out b1)
      clear c0 c1 c2 c3 c4 c5 c6 c7 c8 c9 c10 c11 f3 f5 f6 NS
      have c0 := HK1.out.cell (i := 0) rfl
      have c1 := HK1.out.cell (i := 1) rfl
      have c2 := HK1.out.cell (i := 2) rfl
      have c3 := HK1.out.cell (i := 3) rfl
      have c4 := HK1.out.cell (i := 4) rfl
      have c5 := HK1.out.cell (i := 5) rfl
      have c6 := HK1.out.cell (i := 6) rfl
      have c7 := HK1.out.cell (i := 7) rfl
      have c8 := HK1.out.cell (i := 8) rfl
      have c9 := HK1.out.cell (i := 9) rfl
      have c10 := HK1.out.cell (i := 10) rfl
      have c11 := HK1.out.cell (i := 11) rfl
      have f3 := HK1.out.free 3
      have f5 := HK1.out.free 5
      have f6 := HK1.out.free 6
      clear b1
      cases sf with
      | false =>
        have RF := Lib.hid (show Wi.ff (⟨1, mf, mt, ms, mq, mit, mvc, mns, ⟨mo, mc, mn, mv⟩⟩ : Ms) = false by rw [HR2.out]; simp)
        go_wp2
        go_ret
        exact ⟨by rw [RF.out]; first | rfl | simp, (((HB1.out.setCell (p := ⟨bx, 3, none⟩) hle _).setCell (p := ⟨bx, 5, none⟩) hle _).setCell (p := ⟨bx, 6, none⟩) hle _)⟩
      | true =>
        go_wp2_with fail
        refine NV1.out.mono ?_
        rintro e w2 ⟨rfl, b2⟩
        have HK2 := Lib.hid (HK1.out.later b2); have HB2 := Lib.hid (below_on HB1.out b2)
        clear c0 c1 c2 c3 c4 c5 c6 c7 c8 c9 c10 c11 f3 f5 f6 NV1
        have c0 := HK2.out.cell (i := 0) rfl
        have c1 := HK2.out.cell (i := 1) rfl
        have c2 := HK2.out.cell (i := 2) rfl
        have c3 := HK2.out.cell (i := 3) rfl
        have c4 := HK2.out.cell (i := 4) rfl
        have c5 := HK2.out.cell (i := 5) rfl
        have c6 := HK2.out.cell (i := 6) rfl
        have c7 := HK2.out.cell (i := 7) rfl
        have c8 := HK2.out.cell (i := 8) rfl
        have c9 := HK2.out.cell (i := 9) rfl
        have c10 := HK2.out.cell (i := 10) rfl
        have c11 := HK2.out.cell (i := 11) rfl
        have f3 := HK2.out.free 3
        have f5 := HK2.out.free 5
        have f6 := HK2.out.free 6
        clear b2
        cases vf with
        | false =>
          have RF := Lib.hid (show Wi.ff (⟨1, mf, mt, ms, mq, mit, mvc, mns, ⟨mo, mc, mn, mv⟩⟩ : Ms) = false by rw [HR2.out]; simp)
          go_wp2
          go_ret
          exact ⟨by rw [RF.out]; first | rfl | simp, (((HB2.out.setCell (p := ⟨bx, 3, none⟩) hle _).setCell (p := ⟨bx, 5, none⟩) hle _).setCell (p := ⟨bx, 6, none⟩) hle _)⟩
        | true =>
          have RF := Lib.hid (show Wi.ff (⟨1, mf, mt, ms, mq, mit, mvc, mns, ⟨mo, mc, mn, mv⟩⟩ : Ms) = Wi.nof (⟨1, mf, mt, 0, mq, [], [], mns, ⟨mo, mc, mn, mv⟩⟩ : Ms) by rw [HR2.out]; simp)
          have CN := Lib.hid (dnof_any none none N D 0 0 cn d (⟨1, mf, mt, 0, mq, [], [], mns, ⟨mo, mc, mn, mv⟩⟩ : Ms) (((w2.setCell ⟨bx, 3, none⟩ (.int .i64 0)).setCell ⟨bx, 5, none⟩ (.slice none 0 0)).setCell ⟨bx, 6, none⟩ (.slice none 0 0)))
          unfold msCells at CN
          simp only [List.length_nil] at CN
          have HBL := Lib.hid ((((HB2.out.setCell (p := ⟨bx, 3, none⟩) hle _).setCell (p := ⟨bx, 5, none⟩) hle _).setCell (p := ⟨bx, 6, none⟩) hle _) : Below w.heap.size w (((w2.setCell ⟨bx, 3, none⟩ (.int .i64 0)).setCell ⟨bx, 5, none⟩ (.slice none 0 0)).setCell ⟨bx, 6, none⟩ (.slice none 0 0)))
          go_wp2_with fail
          refine CN.out.mono ?_
          rintro e w9 ⟨rfl, b9⟩
          have HB9 := Lib.hid (below_on HBL.out b9)
          clear b9 CN
          go_wp2
          go_ret
          exact ⟨by rw [RF.out]; first | rfl | simp, HB9.out⟩
    · have d2 : decide ((0 : Int) < (mit.length : Int)) = false := decide_eq_false h2
      have RF := Lib.hid (show Wi.ff (⟨1, mf, mt, ms, mq, mit, mvc, mns, ⟨mo, mc, mn, mv⟩⟩ : Ms) = false by rw [hR.out, d1, d2]; simp)
      go_enter Try.func80, Try.ntmps80
      go_wp2
      go_ret
      exact ⟨by rw [RF.out]; first | rfl | simp, by first | exact below_new (Below.refl _ _) _ | exact ((((below_new (Below.refl _ _) _).setCell (p := ⟨w.heap.size, 3, none⟩) (Nat.le_refl _) _).setCell (p := ⟨w.heap.size, 5, none⟩) (Nat.le_refl _) _).setCell (p := ⟨w.heap.size, 6, none⟩) (Nat.le_refl _) _)⟩
  · have d1 : decide (0 ≤ ms) = false := decide_eq_false h1
    have RF := Lib.hid (show Wi.ff (⟨1, mf, mt, ms, mq, mit, mvc, mns, ⟨mo, mc, mn, mv⟩⟩ : Ms) = false by rw [hR.out, d1]; simp)
    go_enter Try.func80, Try.ntmps80
    go_wp2
    go_ret
    exact ⟨by rw [RF.out]; first | rfl | simp, by first | exact below_new (Below.refl _ _) _ | exact ((((below_new (Below.refl _ _) _).setCell (p := ⟨w.heap.size, 3, none⟩) (Nat.le_refl _) _).setCell (p := ⟨w.heap.size, 5, none⟩) (Nat.le_refl _) _).setCell (p := ⟨w.heap.size, 6, none⟩) (Nat.le_refl _) _)⟩

set_option maxRecDepth 100000 in
set_option maxHeartbeats 6400000 in
theorem dff2_any (I V N D : Option Addr) (ci cv cn d : Nat) (mf mt ms mq : Int) (mit mvc : List (Int × Int)) (mns : List Note) (mo mc mn : Int) (mv : List Int) (w : World) (h : MsAt w I V N D ci cv cn d (⟨2, mf, mt, ms, mq, mit, mvc, mns, ⟨mo, mc, mn, mv⟩⟩ : Ms)) :
    Calls Try.prog 80 #[.agg #[.int .i64 2, .int .i64 mf, .int .i64 mt, .int .i64 ms, .int .i64 mq, .slice I mit.length ci, .slice V mvc.length cv, .slice N mns.length cn, .int .i64 mo, .int .i64 mc, .int .i64 mn, .slice D mv.length d]] w (Says (.bool (Wi.ff (⟨2, mf, mt, ms, mq, mit, mvc, mns, ⟨mo, mc, mn, mv⟩⟩ : Ms))) w) := by
  obtain ⟨bx, hbx⟩ : ∃ bx, w.heap.size = bx := ⟨_, rfl⟩
  obtain ⟨W, hW⟩ : ∃ W, w.alloc (.cells #[.int .i64 2, .int .i64 mf, .int .i64 mt, .int .i64 ms, .int .i64 mq, .slice I mit.length ci, .slice V mvc.length cv, .slice N mns.length cn, .int .i64 mo, .int .i64 mc, .int .i64 mn, .slice D mv.length d] 74) = W := ⟨_, rfl⟩
  have hb0 : Below w.heap.size w W := by rw [← hW]; exact below_new (Below.refl _ _) _
  have hB0 : Blk W bx 74 #[.int .i64 2, .int .i64 mf, .int .i64 mt, .int .i64 ms, .int .i64 mq, .slice I mit.length ci, .slice V mvc.length cv, .slice N mns.length cn, .int .i64 mo, .int .i64 mc, .int .i64 mn, .slice D mv.length d] := by rw [← hW, ← hbx]; exact Blk.new w _ _
  have hle : w.heap.size ≤ bx := by omega
  have HW := Lib.hid hW; have HX := Lib.hid hbx; have HB0 := Lib.hid hb0; have HK0 := Lib.hid hB0; have H := Lib.hid h
  clear hW hbx hb0 hB0 h
  have RF := Lib.hid (show Wi.ff (⟨2, mf, mt, ms, mq, mit, mvc, mns, ⟨mo, mc, mn, mv⟩⟩ : Ms) = Wi.nof (⟨2, mf, mt, ms, mq, mit, mvc, mns, ⟨mo, mc, mn, mv⟩⟩ : Ms) from rfl)
  have c0 := HK0.out.cell (i := 0) rfl
  have c1 := HK0.out.cell (i := 1) rfl
  have c2 := HK0.out.cell (i := 2) rfl
  have c3 := HK0.out.cell (i := 3) rfl
  have c4 := HK0.out.cell (i := 4) rfl
  have c5 := HK0.out.cell (i := 5) rfl
  have c6 := HK0.out.cell (i := 6) rfl
  have c7 := HK0.out.cell (i := 7) rfl
  have c8 := HK0.out.cell (i := 8) rfl
  have c9 := HK0.out.cell (i := 9) rfl
  have c10 := HK0.out.cell (i := 10) rfl
  have c11 := HK0.out.cell (i := 11) rfl
  have CN := Lib.hid (dnof_any I V N D ci cv cn d (⟨2, mf, mt, ms, mq, mit, mvc, mns, ⟨mo, mc, mn, mv⟩⟩ : Ms) W)
  unfold msCells at CN
  simp only at CN
  go_enter Try.func80, Try.ntmps80
  go_wp2_with fail
  rw [HW.out]
  try rw [HX.out]
  refine CN.out.mono ?_
  rintro e w9 ⟨rfl, b9⟩
  have HB9 := Lib.hid (below_on HB0.out b9)
  clear b9 CN
  go_wp2
  go_ret
  exact ⟨by rw [RF.out]; first | rfl | simp, HB9.out⟩

set_option maxRecDepth 100000 in
set_option maxHeartbeats 6400000 in
theorem dff3_any (I V N D : Option Addr) (ci cv cn d : Nat) (mf mt ms mq : Int) (mit mvc : List (Int × Int)) (mns : List Note) (mo mc mn : Int) (mv : List Int) (w : World) (h : MsAt w I V N D ci cv cn d (⟨3, mf, mt, ms, mq, mit, mvc, mns, ⟨mo, mc, mn, mv⟩⟩ : Ms)) :
    Calls Try.prog 80 #[.agg #[.int .i64 3, .int .i64 mf, .int .i64 mt, .int .i64 ms, .int .i64 mq, .slice I mit.length ci, .slice V mvc.length cv, .slice N mns.length cn, .int .i64 mo, .int .i64 mc, .int .i64 mn, .slice D mv.length d]] w (Says (.bool (Wi.ff (⟨3, mf, mt, ms, mq, mit, mvc, mns, ⟨mo, mc, mn, mv⟩⟩ : Ms))) w) := by
  obtain ⟨bx, hbx⟩ : ∃ bx, w.heap.size = bx := ⟨_, rfl⟩
  obtain ⟨W, hW⟩ : ∃ W, w.alloc (.cells #[.int .i64 3, .int .i64 mf, .int .i64 mt, .int .i64 ms, .int .i64 mq, .slice I mit.length ci, .slice V mvc.length cv, .slice N mns.length cn, .int .i64 mo, .int .i64 mc, .int .i64 mn, .slice D mv.length d] 74) = W := ⟨_, rfl⟩
  have hb0 : Below w.heap.size w W := by rw [← hW]; exact below_new (Below.refl _ _) _
  have hB0 : Blk W bx 74 #[.int .i64 3, .int .i64 mf, .int .i64 mt, .int .i64 ms, .int .i64 mq, .slice I mit.length ci, .slice V mvc.length cv, .slice N mns.length cn, .int .i64 mo, .int .i64 mc, .int .i64 mn, .slice D mv.length d] := by rw [← hW, ← hbx]; exact Blk.new w _ _
  have hle : w.heap.size ≤ bx := by omega
  have HW := Lib.hid hW; have HX := Lib.hid hbx; have HB0 := Lib.hid hb0; have HK0 := Lib.hid hB0; have H := Lib.hid h
  clear hW hbx hb0 hB0 h
  have hR := Lib.hid (show Wi.ff (⟨3, mf, mt, ms, mq, mit, mvc, mns, ⟨mo, mc, mn, mv⟩⟩ : Ms) = ((decide (0 ≤ ms) && (decide (0 ≤ mq) && (decide (mns.length ≤ 257) && mns.all Nt.fmd))) && Wi.nof (⟨3, mf, mt, 0, 0, mit, mvc, [], ⟨mo, mc, mn, mv⟩⟩ : Ms)) from rfl)
  have NN := Lib.hid (dfnotes_any N cn mns W (H.out.hn.later HB0.out))
  obtain ⟨sf, hsf⟩ : ∃ q, (decide (mns.length ≤ 257) && mns.all Nt.fmd) = q := ⟨_, rfl⟩
  rw [hsf] at NN hR
  clear hsf
  have c0 := HK0.out.cell (i := 0) rfl
  have c1 := HK0.out.cell (i := 1) rfl
  have c2 := HK0.out.cell (i := 2) rfl
  have c3 := HK0.out.cell (i := 3) rfl
  have c4 := HK0.out.cell (i := 4) rfl
  have c5 := HK0.out.cell (i := 5) rfl
  have c6 := HK0.out.cell (i := 6) rfl
  have c7 := HK0.out.cell (i := 7) rfl
  have c8 := HK0.out.cell (i := 8) rfl
  have c9 := HK0.out.cell (i := 9) rfl
  have c10 := HK0.out.cell (i := 10) rfl
  have c11 := HK0.out.cell (i := 11) rfl
  have f3 := HK0.out.free 3
  have f4 := HK0.out.free 4
  have f7 := HK0.out.free 7
  by_cases h1 : 0 ≤ ms
  · have d1 : decide (0 ≤ ms) = true := decide_eq_true h1
    by_cases h2 : 0 ≤ mq
    · have d2 : decide (0 ≤ mq) = true := decide_eq_true h2
      have hR2 := hR.out
      rw [d1, d2] at hR2
      have HR2 := Lib.hid hR2
      clear hR2
      go_enter Try.func80, Try.ntmps80
      go_wp2_with fail
      rw [HW.out]
      try rw [HX.out]
      refine NN.out.mono ?_
      rintro e w1 ⟨rfl, b1⟩
      have HK1 := Lib.hid (HK0.out.later b1); have HB1 := Lib.hid (below_on HB0.out b1)
      clear c0 c1 c2 c3 c4 c5 c6 c7 c8 c9 c10 c11 f3 f4 f7 NN
      have c0 := HK1.out.cell (i := 0) rfl
      have c1 := HK1.out.cell (i := 1) rfl
      have c2 := HK1.out.cell (i := 2) rfl
      have c3 := HK1.out.cell (i := 3) rfl
      have c4 := HK1.out.cell (i := 4) rfl
      have c5 := HK1.out.cell (i := 5) rfl
      have c6 := HK1.out.cell (i := 6) rfl
      have c7 := HK1.out.cell (i := 7) rfl
      have c8 := HK1.out.cell (i := 8) rfl
      have c9 := HK1.out.cell (i := 9) rfl
      have c10 := HK1.out.cell (i := 10) rfl
      have c11 := HK1.out.cell (i := 11) rfl
      have f3 := HK1.out.free 3
      have f4 := HK1.out.free 4
      have f7 := HK1.out.free 7
      clear b1
      cases sf with
      | false =>
        have RF := Lib.hid (show Wi.ff (⟨3, mf, mt, ms, mq, mit, mvc, mns, ⟨mo, mc, mn, mv⟩⟩ : Ms) = false by rw [HR2.out]; simp)
        go_wp2
        go_ret
        exact ⟨by rw [RF.out]; first | rfl | simp, (((HB1.out.setCell (p := ⟨bx, 3, none⟩) hle _).setCell (p := ⟨bx, 4, none⟩) hle _).setCell (p := ⟨bx, 7, none⟩) hle _)⟩
      | true =>
        have RF := Lib.hid (show Wi.ff (⟨3, mf, mt, ms, mq, mit, mvc, mns, ⟨mo, mc, mn, mv⟩⟩ : Ms) = Wi.nof (⟨3, mf, mt, 0, 0, mit, mvc, [], ⟨mo, mc, mn, mv⟩⟩ : Ms) by rw [HR2.out]; simp)
        have CN := Lib.hid (dnof_any I V none D ci cv 0 d (⟨3, mf, mt, 0, 0, mit, mvc, [], ⟨mo, mc, mn, mv⟩⟩ : Ms) (((w1.setCell ⟨bx, 3, none⟩ (.int .i64 0)).setCell ⟨bx, 4, none⟩ (.int .i64 0)).setCell ⟨bx, 7, none⟩ (.slice none 0 0)))
        unfold msCells at CN
        simp only [List.length_nil] at CN
        have HBL := Lib.hid ((((HB1.out.setCell (p := ⟨bx, 3, none⟩) hle _).setCell (p := ⟨bx, 4, none⟩) hle _).setCell (p := ⟨bx, 7, none⟩) hle _) : Below w.heap.size w (((w1.setCell ⟨bx, 3, none⟩ (.int .i64 0)).setCell ⟨bx, 4, none⟩ (.int .i64 0)).setCell ⟨bx, 7, none⟩ (.slice none 0 0)))
        go_wp2_with fail
        refine CN.out.mono ?_
        rintro e w9 ⟨rfl, b9⟩
        have HB9 := Lib.hid (below_on HBL.out b9)
        clear b9 CN
        go_wp2
        go_ret
        exact ⟨by rw [RF.out]; first | rfl | simp, HB9.out⟩
    · have d2 : decide (0 ≤ mq) = false := decide_eq_false h2
      have RF := Lib.hid (show Wi.ff (⟨3, mf, mt, ms, mq, mit, mvc, mns, ⟨mo, mc, mn, mv⟩⟩ : Ms) = false by rw [hR.out, d1, d2]; simp)
      go_enter Try.func80, Try.ntmps80
      go_wp2
      go_ret
      exact ⟨by rw [RF.out]; first | rfl | simp, by first | exact below_new (Below.refl _ _) _ | exact ((((below_new (Below.refl _ _) _).setCell (p := ⟨w.heap.size, 3, none⟩) (Nat.le_refl _) _).setCell (p := ⟨w.heap.size, 4, none⟩) (Nat.le_refl _) _).setCell (p := ⟨w.heap.size, 7, none⟩) (Nat.le_refl _) _)⟩
  · have d1 : decide (0 ≤ ms) = false := decide_eq_false h1
    have RF := Lib.hid (show Wi.ff (⟨3, mf, mt, ms, mq, mit, mvc, mns, ⟨mo, mc, mn, mv⟩⟩ : Ms) = false by rw [hR.out, d1]; simp)
    go_enter Try.func80, Try.ntmps80
    go_wp2
    go_ret
    exact ⟨by rw [RF.out]; first | rfl | simp, by first | exact below_new (Below.refl _ _) _ | exact ((((below_new (Below.refl _ _) _).setCell (p := ⟨w.heap.size, 3, none⟩) (Nat.le_refl _) _).setCell (p := ⟨w.heap.size, 4, none⟩) (Nat.le_refl _) _).setCell (p := ⟨w.heap.size, 7, none⟩) (Nat.le_refl _) _)⟩

set_option maxRecDepth 100000 in
set_option maxHeartbeats 6400000 in
theorem dff4_any (I V N D : Option Addr) (ci cv cn d : Nat) (mf mt ms mq : Int) (mit mvc : List (Int × Int)) (mns : List Note) (mo mc mn : Int) (mv : List Int) (w : World) (h : MsAt w I V N D ci cv cn d (⟨4, mf, mt, ms, mq, mit, mvc, mns, ⟨mo, mc, mn, mv⟩⟩ : Ms)) :
    Calls Try.prog 80 #[.agg #[.int .i64 4, .int .i64 mf, .int .i64 mt, .int .i64 ms, .int .i64 mq, .slice I mit.length ci, .slice V mvc.length cv, .slice N mns.length cn, .int .i64 mo, .int .i64 mc, .int .i64 mn, .slice D mv.length d]] w (Says (.bool (Wi.ff (⟨4, mf, mt, ms, mq, mit, mvc, mns, ⟨mo, mc, mn, mv⟩⟩ : Ms))) w) := by
  obtain ⟨bx, hbx⟩ : ∃ bx, w.heap.size = bx := ⟨_, rfl⟩
  obtain ⟨W, hW⟩ : ∃ W, w.alloc (.cells #[.int .i64 4, .int .i64 mf, .int .i64 mt, .int .i64 ms, .int .i64 mq, .slice I mit.length ci, .slice V mvc.length cv, .slice N mns.length cn, .int .i64 mo, .int .i64 mc, .int .i64 mn, .slice D mv.length d] 74) = W := ⟨_, rfl⟩
  have hb0 : Below w.heap.size w W := by rw [← hW]; exact below_new (Below.refl _ _) _
  have hB0 : Blk W bx 74 #[.int .i64 4, .int .i64 mf, .int .i64 mt, .int .i64 ms, .int .i64 mq, .slice I mit.length ci, .slice V mvc.length cv, .slice N mns.length cn, .int .i64 mo, .int .i64 mc, .int .i64 mn, .slice D mv.length d] := by rw [← hW, ← hbx]; exact Blk.new w _ _
  have hle : w.heap.size ≤ bx := by omega
  have HW := Lib.hid hW; have HX := Lib.hid hbx; have HB0 := Lib.hid hb0; have HK0 := Lib.hid hB0; have H := Lib.hid h
  clear hW hbx hb0 hB0 h
  have hR := Lib.hid (show Wi.ff (⟨4, mf, mt, ms, mq, mit, mvc, mns, ⟨mo, mc, mn, mv⟩⟩ : Ms) = (decide (0 ≤ mo ∧ mo ≤ 255) && Wi.nof (⟨4, mf, mt, ms, mq, mit, mvc, mns, ⟨0, mc, mn, mv⟩⟩ : Ms)) from rfl)
  have NN := Lib.hid (disObject_any mo W)
  obtain ⟨sf, hsf⟩ : ∃ q, decide (0 ≤ mo ∧ mo ≤ 255) = q := ⟨_, rfl⟩
  rw [hsf] at NN hR
  clear hsf
  have c0 := HK0.out.cell (i := 0) rfl
  have c1 := HK0.out.cell (i := 1) rfl
  have c2 := HK0.out.cell (i := 2) rfl
  have c3 := HK0.out.cell (i := 3) rfl
  have c4 := HK0.out.cell (i := 4) rfl
  have c5 := HK0.out.cell (i := 5) rfl
  have c6 := HK0.out.cell (i := 6) rfl
  have c7 := HK0.out.cell (i := 7) rfl
  have c8 := HK0.out.cell (i := 8) rfl
  have c9 := HK0.out.cell (i := 9) rfl
  have c10 := HK0.out.cell (i := 10) rfl
  have c11 := HK0.out.cell (i := 11) rfl
  go_enter Try.func80, Try.ntmps80
  go_wp2_with fail
  rw [HW.out]
  try rw [HX.out]
  refine NN.out.mono ?_
  rintro e w1 ⟨rfl, b1⟩
  have HK1 := Lib.hid (HK0.out.later b1); have HB1 := Lib.hid (below_on HB0.out b1)
  clear c0 c1 c2 c3 c4 c5 c6 c7 c8 c9 c10 c11 NN
  have c0 := HK1.out.cell (i := 0) rfl
  have c1 := HK1.out.cell (i := 1) rfl
  have c2 := HK1.out.cell (i := 2) rfl
  have c3 := HK1.out.cell (i := 3) rfl
  have c4 := HK1.out.cell (i := 4) rfl
  have c5 := HK1.out.cell (i := 5) rfl
  have c6 := HK1.out.cell (i := 6) rfl
  have c7 := HK1.out.cell (i := 7) rfl
  have c8 := HK1.out.cell (i := 8) rfl
  have c9 := HK1.out.cell (i := 9) rfl
  have c10 := HK1.out.cell (i := 10) rfl
  have c11 := HK1.out.cell (i := 11) rfl
  have f8 := HK1.out.free 8
  clear b1
  cases sf with
  | false =>
    have RF := Lib.hid (show Wi.ff (⟨4, mf, mt, ms, mq, mit, mvc, mns, ⟨mo, mc, mn, mv⟩⟩ : Ms) = false by rw [hR.out]; simp)
    go_wp2
    go_ret
    exact ⟨by rw [RF.out]; first | rfl | simp, (HB1.out.setCell (p := ⟨bx, 8, none⟩) hle _)⟩
  | true =>
    have RF := Lib.hid (show Wi.ff (⟨4, mf, mt, ms, mq, mit, mvc, mns, ⟨mo, mc, mn, mv⟩⟩ : Ms) = Wi.nof (⟨4, mf, mt, ms, mq, mit, mvc, mns, ⟨0, mc, mn, mv⟩⟩ : Ms) by rw [hR.out]; simp)
    have CN := Lib.hid (dnof_any I V N D ci cv cn d (⟨4, mf, mt, ms, mq, mit, mvc, mns, ⟨0, mc, mn, mv⟩⟩ : Ms) (w1.setCell ⟨bx, 8, none⟩ (.int .i64 0)))
    unfold msCells at CN
    simp only at CN
    have HBL := Lib.hid ((HB1.out.setCell (p := ⟨bx, 8, none⟩) hle _) : Below w.heap.size w (w1.setCell ⟨bx, 8, none⟩ (.int .i64 0)))
    go_wp2_with fail
    refine CN.out.mono ?_
    rintro e w9 ⟨rfl, b9⟩
    have HB9 := Lib.hid (below_on HBL.out b9)
    clear b9 CN
    go_wp2
    go_ret
    exact ⟨by rw [RF.out]; first | rfl | simp, HB9.out⟩

set_option maxRecDepth 100000 in
set_option maxHeartbeats 6400000 in
theorem dff5_any (I V N D : Option Addr) (ci cv cn d : Nat) (mf mt ms mq : Int) (mit mvc : List (Int × Int)) (mns : List Note) (mo mc mn : Int) (mv : List Int) (w : World) (h : MsAt w I V N D ci cv cn d (⟨5, mf, mt, ms, mq, mit, mvc, mns, ⟨mo, mc, mn, mv⟩⟩ : Ms)) :
    Calls Try.prog 80 #[.agg #[.int .i64 5, .int .i64 mf, .int .i64 mt, .int .i64 ms, .int .i64 mq, .slice I mit.length ci, .slice V mvc.length cv, .slice N mns.length cn, .int .i64 mo, .int .i64 mc, .int .i64 mn, .slice D mv.length d]] w (Says (.bool (Wi.ff (⟨5, mf, mt, ms, mq, mit, mvc, mns, ⟨mo, mc, mn, mv⟩⟩ : Ms))) w) := by
  obtain ⟨bx, hbx⟩ : ∃ bx, w.heap.size = bx := ⟨_, rfl⟩
  obtain ⟨W, hW⟩ : ∃ W, w.alloc (.cells #[.int .i64 5, .int .i64 mf, .int .i64 mt, .int .i64 ms, .int .i64 mq, .slice I mit.length ci, .slice V mvc.length cv, .slice N mns.length cn, .int .i64 mo, .int .i64 mc, .int .i64 mn, .slice D mv.length d] 74) = W := ⟨_, rfl⟩
  have hb0 : Below w.heap.size w W := by rw [← hW]; exact below_new (Below.refl _ _) _
  have hB0 : Blk W bx 74 #[.int .i64 5, .int .i64 mf, .int .i64 mt, .int .i64 ms, .int .i64 mq, .slice I mit.length ci, .slice V mvc.length cv, .slice N mns.length cn, .int .i64 mo, .int .i64 mc, .int .i64 mn, .slice D mv.length d] := by rw [← hW, ← hbx]; exact Blk.new w _ _
  have hle : w.heap.size ≤ bx := by omega
  have HW := Lib.hid hW; have HX := Lib.hid hbx; have HB0 := Lib.hid hb0; have HK0 := Lib.hid hB0; have H := Lib.hid h
  clear hW hbx hb0 hB0 h
  have hR := Lib.hid (show Wi.ff (⟨5, mf, mt, ms, mq, mit, mvc, mns, ⟨mo, mc, mn, mv⟩⟩ : Ms) = (Wi.bright ⟨mo, mc, mn, mv⟩ && Wi.nof (⟨5, mf, mt, ms, mq, mit, mvc, mns, ⟨0, 0, 0, []⟩⟩ : Ms)) from rfl)
  have NN := Lib.hid (dfbody_any D d ⟨mo, mc, mn, mv⟩ W)
  unfold bdCells at NN
  simp only at NN
  obtain ⟨sf, hsf⟩ : ∃ q, Wi.bright ⟨mo, mc, mn, mv⟩ = q := ⟨_, rfl⟩
  rw [hsf] at NN hR
  clear hsf
  have c0 := HK0.out.cell (i := 0) rfl
  have c1 := HK0.out.cell (i := 1) rfl
  have c2 := HK0.out.cell (i := 2) rfl
  have c3 := HK0.out.cell (i := 3) rfl
  have c4 := HK0.out.cell (i := 4) rfl
  have c5 := HK0.out.cell (i := 5) rfl
  have c6 := HK0.out.cell (i := 6) rfl
  have c7 := HK0.out.cell (i := 7) rfl
  have c8 := HK0.out.cell (i := 8) rfl
  have c9 := HK0.out.cell (i := 9) rfl
  have c10 := HK0.out.cell (i := 10) rfl
  have c11 := HK0.out.cell (i := 11) rfl
  go_enter Try.func80, Try.ntmps80
  go_wp2_with fail
  rw [HW.out]
  try rw [HX.out]
  refine NN.out.mono ?_
  rintro e w1 ⟨rfl, b1⟩
  have HK1 := Lib.hid (HK0.out.later b1); have HB1 := Lib.hid (below_on HB0.out b1)
  clear c0 c1 c2 c3 c4 c5 c6 c7 c8 c9 c10 c11 NN
  have c0 := HK1.out.cell (i := 0) rfl
  have c1 := HK1.out.cell (i := 1) rfl
  have c2 := HK1.out.cell (i := 2) rfl
  have c3 := HK1.out.cell (i := 3) rfl
  have c4 := HK1.out.cell (i := 4) rfl
  have c5 := HK1.out.cell (i := 5) rfl
  have c6 := HK1.out.cell (i := 6) rfl
  have c7 := HK1.out.cell (i := 7) rfl
  have c8 := HK1.out.cell (i := 8) rfl
  have c9 := HK1.out.cell (i := 9) rfl
  have c10 := HK1.out.cell (i := 10) rfl
  have c11 := HK1.out.cell (i := 11) rfl
  have f8 := HK1.out.free 8
  have f9 := HK1.out.free 9
  have f10 := HK1.out.free 10
  have f11 := HK1.out.free 11
  clear b1
  cases sf with
  | false =>
    have RF := Lib.hid (show Wi.ff (⟨5, mf, mt, ms, mq, mit, mvc, mns, ⟨mo, mc, mn, mv⟩⟩ : Ms) = false by rw [hR.out]; simp)
    go_wp2
    go_ret
    exact ⟨by rw [RF.out]; first | rfl | simp, ((((HB1.out.setCell (p := ⟨bx, 8, none⟩) hle _).setCell (p := ⟨bx, 9, none⟩) hle _).setCell (p := ⟨bx, 10, none⟩) hle _).setCell (p := ⟨bx, 11, none⟩) hle _)⟩
  | true =>
    have RF := Lib.hid (show Wi.ff (⟨5, mf, mt, ms, mq, mit, mvc, mns, ⟨mo, mc, mn, mv⟩⟩ : Ms) = Wi.nof (⟨5, mf, mt, ms, mq, mit, mvc, mns, ⟨0, 0, 0, []⟩⟩ : Ms) by rw [hR.out]; simp)
    have CN := Lib.hid (dnof_any I V N none ci cv cn 0 (⟨5, mf, mt, ms, mq, mit, mvc, mns, ⟨0, 0, 0, []⟩⟩ : Ms) ((((w1.setCell ⟨bx, 8, none⟩ (.int .i64 0)).setCell ⟨bx, 9, none⟩ (.int .i64 0)).setCell ⟨bx, 10, none⟩ (.int .i64 0)).setCell ⟨bx, 11, none⟩ (.slice none 0 0)))
    unfold msCells at CN
    simp only [List.length_nil] at CN
    have HBL := Lib.hid (((((HB1.out.setCell (p := ⟨bx, 8, none⟩) hle _).setCell (p := ⟨bx, 9, none⟩) hle _).setCell (p := ⟨bx, 10, none⟩) hle _).setCell (p := ⟨bx, 11, none⟩) hle _) : Below w.heap.size w ((((w1.setCell ⟨bx, 8, none⟩ (.int .i64 0)).setCell ⟨bx, 9, none⟩ (.int .i64 0)).setCell ⟨bx, 10, none⟩ (.int .i64 0)).setCell ⟨bx, 11, none⟩ (.slice none 0 0)))
    go_wp2_with fail
    refine CN.out.mono ?_
    rintro e w9 ⟨rfl, b9⟩
    have HB9 := Lib.hid (below_on HBL.out b9)
    clear b9 CN
    go_wp2
    go_ret
    exact ⟨by rw [RF.out]; first | rfl | simp, HB9.out⟩

set_option maxRecDepth 100000 in
set_option maxHeartbeats 6400000 in
theorem dff0_any (I V N D : Option Addr) (ci cv cn d : Nat) (mk : Int) (e1 : ¬ mk = 1) (e2 : ¬ mk = 2) (e3 : ¬ mk = 3) (e4 : ¬ mk = 4) (e5 : ¬ mk = 5) (mf mt ms mq : Int) (mit mvc : List (Int × Int)) (mns : List Note) (mo mc mn : Int) (mv : List Int) (w : World) (h : MsAt w I V N D ci cv cn d (⟨mk, mf, mt, ms, mq, mit, mvc, mns, ⟨mo, mc, mn, mv⟩⟩ : Ms)) :
    Calls Try.prog 80 #[.agg #[.int .i64 mk, .int .i64 mf, .int .i64 mt, .int .i64 ms, .int .i64 mq, .slice I mit.length ci, .slice V mvc.length cv, .slice N mns.length cn, .int .i64 mo, .int .i64 mc, .int .i64 mn, .slice D mv.length d]] w (Says (.bool (Wi.ff (⟨mk, mf, mt, ms, mq, mit, mvc, mns, ⟨mo, mc, mn, mv⟩⟩ : Ms))) w) := by
  obtain ⟨bx, hbx⟩ : ∃ bx, w.heap.size = bx := ⟨_, rfl⟩
  obtain ⟨W, hW⟩ : ∃ W, w.alloc (.cells #[.int .i64 mk, .int .i64 mf, .int .i64 mt, .int .i64 ms, .int .i64 mq, .slice I mit.length ci, .slice V mvc.length cv, .slice N mns.length cn, .int .i64 mo, .int .i64 mc, .int .i64 mn, .slice D mv.length d] 74) = W := ⟨_, rfl⟩
  have hb0 : Below w.heap.size w W := by rw [← hW]; exact below_new (Below.refl _ _) _
  have hB0 : Blk W bx 74 #[.int .i64 mk, .int .i64 mf, .int .i64 mt, .int .i64 ms, .int .i64 mq, .slice I mit.length ci, .slice V mvc.length cv, .slice N mns.length cn, .int .i64 mo, .int .i64 mc, .int .i64 mn, .slice D mv.length d] := by rw [← hW, ← hbx]; exact Blk.new w _ _
  have hle : w.heap.size ≤ bx := by omega
  have HW := Lib.hid hW; have HX := Lib.hid hbx; have HB0 := Lib.hid hb0; have HK0 := Lib.hid hB0; have H := Lib.hid h
  clear hW hbx hb0 hB0 h
  have q1 : (mk == 1) = false := beq_eq_false_iff_ne.2 e1
  have q2 : (mk == 2) = false := beq_eq_false_iff_ne.2 e2
  have q3 : (mk == 3) = false := beq_eq_false_iff_ne.2 e3
  have q4 : (mk == 4) = false := beq_eq_false_iff_ne.2 e4
  have q5 : (mk == 5) = false := beq_eq_false_iff_ne.2 e5
  have RF := Lib.hid (show Wi.ff (⟨mk, mf, mt, ms, mq, mit, mvc, mns, ⟨mo, mc, mn, mv⟩⟩ : Ms) = false by unfold Wi.ff; rw [if_neg e1, if_neg e2, if_neg e3, if_neg e4, if_neg e5])
  clear e1 e2 e3 e4 e5
  have c0 := HK0.out.cell (i := 0) rfl
  have c1 := HK0.out.cell (i := 1) rfl
  have c2 := HK0.out.cell (i := 2) rfl
  have c3 := HK0.out.cell (i := 3) rfl
  have c4 := HK0.out.cell (i := 4) rfl
  have c5 := HK0.out.cell (i := 5) rfl
  have c6 := HK0.out.cell (i := 6) rfl
  have c7 := HK0.out.cell (i := 7) rfl
  have c8 := HK0.out.cell (i := 8) rfl
  have c9 := HK0.out.cell (i := 9) rfl
  have c10 := HK0.out.cell (i := 10) rfl
  have c11 := HK0.out.cell (i := 11) rfl
  go_enter Try.func80, Try.ntmps80
  go_wp2_with fail
  rw [HW.out]
  try rw [HX.out]
  go_wp2
  go_ret
  exact ⟨by rw [RF.out]; first | rfl | simp, HB0.out⟩

theorem dff_any (I V N D : Option Addr) (ci cv cn d : Nat) (m : Ms) (w : World) (h : MsAt w I V N D ci cv cn d m) :
    Calls Try.prog 80 #[.agg (msCells I V N D ci cv cn d m)] w (Says (.bool (Wi.ff m)) w) := by
  obtain ⟨mk, mf, mt, ms, mq, mit, mvc, mns, mbd⟩ := m
  obtain ⟨mo, mc, mn, mv⟩ := mbd
  by_cases h1 : mk = 1
  · subst h1; exact dff1_any I V N D ci cv cn d mf mt ms mq mit mvc mns mo mc mn mv w h
  by_cases h2 : mk = 2
  · subst h2; exact dff2_any I V N D ci cv cn d mf mt ms mq mit mvc mns mo mc mn mv w h
  by_cases h3 : mk = 3
  · subst h3; exact dff3_any I V N D ci cv cn d mf mt ms mq mit mvc mns mo mc mn mv w h
  by_cases h4 : mk = 4
  · subst h4; exact dff4_any I V N D ci cv cn d mf mt ms mq mit mvc mns mo mc mn mv w h
  by_cases h5 : mk = 5
  · subst h5; exact dff5_any I V N D ci cv cn d mf mt ms mq mit mvc mns mo mc mn mv w h
  exact dff0_any I V N D ci cv cn d mk h1 h2 h3 h4 h5 mf mt ms mq mit mvc mns mo mc mn mv w h
namespace Wi
/-- Is it a message as it must be, as wire asks it? -/
def dmf (m : Ms) : Bool := decide (0 ≤ m.f ∧ m.f ≤ 63) && (decide (0 ≤ m.t ∧ m.t ≤ 63) && ff m)
end Wi
set_option maxRecDepth 100000 in
set_option maxHeartbeats 6400000 in
theorem dmf_any (I V N D : Option Addr) (ci cv cn d : Nat) (m : Ms) (w : World) (h : MsAt w I V N D ci cv cn d m) :
    Calls Try.prog 40 #[.agg (msCells I V N D ci cv cn d m)] w (Says (.bool (Wi.dmf m)) w) := by
  have hR := Lib.hid (show Wi.dmf m = (decide (0 ≤ m.f ∧ m.f ≤ 63) && (decide (0 ≤ m.t ∧ m.t ≤ 63) && Wi.ff m)) from rfl)
  obtain ⟨bx, hbx⟩ : ∃ bx, w.heap.size = bx := ⟨_, rfl⟩
  obtain ⟨W, hW⟩ : ∃ W, w.alloc (.cells (msCells I V N D ci cv cn d m) 74) = W := ⟨_, rfl⟩
  have hb0 : Below w.heap.size w W := by rw [← hW]; exact below_new (Below.refl _ _) _
  have hB0 : Blk W bx 74 (msCells I V N D ci cv cn d m) := by rw [← hW, ← hbx]; exact Blk.new w _ _
  have CF := Lib.hid (fun wx (hx : Below W.heap.size W wx) => dff_any I V N D ci cv cn d m wx ((h.later hb0).later hx))
  have N1 := Lib.hid (disNode_any m.f W)
  have N2 := Lib.hid (fun wx => disNode_any m.t wx)
  obtain ⟨b1, h1⟩ : ∃ q, decide (0 ≤ m.f ∧ m.f ≤ 63) = q := ⟨_, rfl⟩
  obtain ⟨b2, h2⟩ : ∃ q, decide (0 ≤ m.t ∧ m.t ≤ 63) = q := ⟨_, rfl⟩
  rw [h1] at hR N1
  rw [h2] at hR N2
  clear h1 h2 h
  unfold msCells at hW hB0 CF ⊢
  have HW := Lib.hid hW; have HX := Lib.hid hbx; have HB0 := Lib.hid hb0; have HK0 := Lib.hid hB0
  clear hW hbx hb0 hB0
  have c1 := HK0.out.cell (i := 1) rfl
  go_enter Try.func40, Try.ntmps40
  go_wp2_with fail
  rw [HW.out]
  try rw [HX.out]
  refine N1.out.mono ?_
  rintro e w1 ⟨rfl, x1⟩
  have B1 := Lib.hid x1; have HK1 := Lib.hid (HK0.out.later x1)
  have k2 := HK1.out.cell (i := 2) rfl
  clear x1 c1 N1
  cases b1 with
  | false =>
    have RF := Lib.hid (show Wi.dmf m = false by rw [hR.out]; simp)
    go_wp2
    go_ret
    exact ⟨by rw [RF.out]; first | rfl | simp, below_on HB0.out B1.out⟩
  | true =>
    go_wp2_with fail
    refine (N2.out _).mono ?_
    rintro e w2 ⟨rfl, x2⟩
    have B2 := Lib.hid (below_on B1.out x2); have HK2 := Lib.hid (HK1.out.later x2)
    clear x2 k2 N2
    have c0 := HK2.out.cell (i := 0) rfl
    have c1 := HK2.out.cell (i := 1) rfl
    have c2 := HK2.out.cell (i := 2) rfl
    have c3 := HK2.out.cell (i := 3) rfl
    have c4 := HK2.out.cell (i := 4) rfl
    have c5 := HK2.out.cell (i := 5) rfl
    have c6 := HK2.out.cell (i := 6) rfl
    have c7 := HK2.out.cell (i := 7) rfl
    have c8 := HK2.out.cell (i := 8) rfl
    have c9 := HK2.out.cell (i := 9) rfl
    have c10 := HK2.out.cell (i := 10) rfl
    have c11 := HK2.out.cell (i := 11) rfl
    cases b2 with
    | false =>
      have RF := Lib.hid (show Wi.dmf m = false by rw [hR.out]; simp)
      go_wp2
      go_ret
      exact ⟨by rw [RF.out]; first | rfl | simp, below_on HB0.out B2.out⟩
    | true =>
      have RF := Lib.hid (show Wi.dmf m = Wi.ff m by rw [hR.out]; simp)
      have CG := Lib.hid (CF.out w2 B2.out)
      clear CF
      go_wp2_with fail
      refine CG.out.mono ?_
      rintro e w3 ⟨rfl, x3⟩
      have HB3 := Lib.hid (below_on (below_on HB0.out B2.out) x3)
      clear x3 CG
      go_wp2
      go_ret
      exact ⟨by rw [RF.out]; first | rfl | simp, HB3.out⟩

end Go.Proofs.Ytbbmngabbbehcaa
namespace Go.Proofs.Ytbbmngabbbehcaa
open Go.RowKit

theorem DRd.start {w : World} {A : Option Addr} {c : Nat} {l : List Int} (h : OneB w A c l) : DRd (w.alloc (.cells #[.slice A l.length c, .bool false] 126)) w.heap.size l (some 0) := by
  refine ⟨A, c, l, false, Blk.new w _ _, h.later (below_new (Below.refl _ _) _), fun hne ad hA => ?_, Nat.zero_le _, rfl, rfl⟩
  obtain ⟨b, off, hA', hc⟩ := h.at hne
  rw [hA'] at hA
  cases hA
  have h0 := hc 0 (List.length_pos_iff.2 hne)
  exact World.block_lt_of_cell? _ _ h0
/-- What begun answers: a list that is as it must be, with how many bytes it has, or the error. -/
def BegL {α : Type} (t : TypeId) (sz : Nat) (cells : List α → List Value) (fits : α → Prop) (most : Nat) (p : Nat → Option (List α × Nat)) (w : World) (e : Ending) (w' : World) : Prop :=
  ∃ v x k er, e = .returned (.tuple #[v, .int .i64 k, .int .i64 er]) ∧ x.length ≤ most ∧ (∀ y ∈ x, fits y) ∧ w'.ownsRow w.heap.size t sz v x.length (cells x) ∧ Below w.heap.size w w' ∧
    ((∃ a : Nat, p 0 = some (x, a) ∧ k = (a : Int) ∧ er = 0) ∨ (p 0 = none ∧ x = [] ∧ k = 0 ∧ er = 4))
theorem p_of_got {α : Type} {p : Nat → Option (α × Nat)} {x : α} {a : Nat} (hn : Wi.nxt p (some 0) = some a) (hg : Wi.Got p (some 0) x) : p 0 = some (x, a) := by
  have hn : (p 0).map (·.2) = some a := hn
  cases hp : p 0 with
  | none => rw [hp] at hn; cases hn
  | some y =>
    obtain ⟨y, b⟩ := y
    rw [hp] at hn
    have : x = y := hg y b hp
    cases hn
    rw [this]
theorem p_none {α : Type} {p : Nat → Option (α × Nat)} (hn : Wi.nxt p (some 0) = none) : p 0 = none := by
  have hn : (p 0).map (·.2) = none := hn
  cases hp : p 0 with
  | none => rfl
  | some y => rw [hp] at hn; cases hn
theorem such_none {α : Type} {p : Nat → Option (α × Nat)} {f : α → Bool} (h : p 0 = none) : Wi.such f (p 0) = none := by rw [h]; rfl
theorem such_no {α : Type} {p : Nat → Option (α × Nat)} {f : α → Bool} {x : α} {a : Nat} (h : p 0 = some (x, a)) (hf : f x = false) : Wi.such f (p 0) = none := by
  rw [h]; show (if f x then some (x, a) else none) = none; rw [hf]; rfl
theorem such_yes {α : Type} {p : Nat → Option (α × Nat)} {f : α → Bool} {x : α} {a : Nat} (h : p 0 = some (x, a)) (hf : f x = true) : Wi.such f (p 0) = some (x, a) := by
  rw [h]; show (if f x then some (x, a) else none) = some (x, a); rw [hf]; rfl

set_option maxRecDepth 100000 in
set_option maxHeartbeats 6400000 in
theorem dbeg_st (FMC : ∀ (A : Option Addr) (c : Nat) (l : List (Int × Int)) (w : World), OneL w A c l → Calls Try.prog 49 #[.slice A l.length c] w (Says (.bool (Ve.fmd l)) w)) (A : Option Addr) (c : Nat) (l : List Int) (w : World) (h : OneB w A c l) :
    Calls Try.prog 52 #[.slice A l.length c, .func (.func 53) #[] #[], .func (.func 49) #[] #[]] w (BegL 61 2 stCells (fun s : Int × Int => Wi.fit s.1 ∧ Wi.fit s.2) 64 (fun a => Wi.such Ve.fmd (Wi.plistm 64 (Wi.pst l) l a)) w) := by
  obtain ⟨W, hW⟩ : ∃ W, w.alloc (.cells #[.slice A l.length c, .bool false] 126) = W := ⟨_, rfl⟩
  have hd0 := DRd.start h
  rw [hW] at hd0
  have hb0 : Below w.heap.size w W := by rw [← hW]; exact below_new (Below.refl _ _) _
  obtain ⟨g, hg⟩ : ∃ g, w.heap.size = g := ⟨_, rfl⟩
  rw [hg] at hd0
  have hWs := hb0.size
  have CK := Lib.hid (drvec_any g l (some 0) W hd0)
  have HG := Lib.hid hg; have HW := Lib.hid hW; have HB0 := Lib.hid hb0; have FM := Lib.hid FMC
  have hgw : w.heap.size ≤ g := by omega
  have hll := h.len
  have HH := Lib.hid h
  clear hW hd0 hb0 hg FMC h
  go_enter Try.func52, Try.ntmps52
  go_wp2_with fail
  rw [HW.out]
  try rw [HG.out]
  refine CK.out.mono ?_
  rintro e w1 ⟨v, x, rfl, hx, fx, hrow, hd, ho, hgot⟩
  have hb1 : Below w.heap.size w w1 := HB0.out.trans (ho.to_below hWs hgw)
  obtain ⟨AX, cx, hv, -⟩ := own_form hrow
  subst hv
  have r1 := own_base hrow hWs
  have hno := oneL_own r1
  have CF := Lib.hid (FM.out AX cx x w1 hno)
  have HR1 := Lib.hid r1; have HB1 := Lib.hid hb1; have HX := Lib.hid (And.intro hx fx); have GT := Lib.hid hgot
  obtain ⟨A2, c2, r2, b2, hB, hO2, -, hL⟩ := hd
  have z1 := hB.cell (i := 1) rfl
  have hlen2 := hO2.len
  have HBK := Lib.hid hB
  obtain ⟨s1, hs1⟩ : ∃ s1, Wi.nxt (Wi.plistm 64 (Wi.pst l) l) (some 0) = s1 := ⟨_, rfl⟩
  rw [hs1] at hL
  have HS1 := Lib.hid hs1
  clear hrow r1 hno hb1 hx fx hgot hB ho hO2 hs1 FM HB0 CK
  cases s1 with
  | none =>
    obtain ⟨-, rfl⟩ := hL
    have hpn := such_none (f := Ve.fmd) (p_none HS1.out)
    have HPN := Lib.hid hpn
    clear hpn
    go_wp2
    go_ret3
    exact ⟨_, [], _, _, rfl, Nat.zero_le _, (fun _ h => by cases h), own_none _ _ _ _, HB1.out, .inr ⟨HPN.out, rfl, rfl, rfl⟩⟩
  | some a =>
    obtain ⟨ha, hr2, rfl⟩ := hL
    have hps := p_of_got HS1.out GT.out
    obtain ⟨fb, hfb⟩ : ∃ fb, Ve.fmd x = fb := ⟨_, rfl⟩
    rw [hfb] at CF
    have hrl : r2.length = l.length - a := by rw [hr2, List.length_drop]
    cases fb with
    | false =>
      have hpn := such_no hps hfb
      have HPN := Lib.hid hpn
      clear hpn hps hfb hr2 hrl
      go_wp2_with fail
      refine CF.out.mono ?_
      rintro e w2 ⟨rfl, b2⟩
      have HB2 := Lib.hid (below_on HB1.out b2)
      clear b2 CF
      go_wp2
      go_ret3
      exact ⟨_, [], _, _, rfl, Nat.zero_le _, (fun _ h => by cases h), own_none _ _ _ _, HB2.out, .inr ⟨HPN.out, rfl, rfl, rfl⟩⟩
    | true =>
      have hpn := such_yes hps hfb
      have HPN := Lib.hid hpn; have HRL := Lib.hid hrl
      clear hpn hps hfb hr2 hrl
      go_wp2_with fail
      refine CF.out.mono ?_
      rintro e w2 ⟨rfl, b2⟩
      have HB2 := Lib.hid (below_on HB1.out b2)
      have hB2 := HBK.out.later b2
      have z0 := hB2.cell (i := 0) rfl
      have k0 := fun d os => cell_regrown (d := d) (os := os) z0
      have HR2 := Lib.hid (own_later HR1.out b2)
      clear b2 CF hB2 z0 z1
      have hsub1 : (0 : Int) ≤ (l.length : Int) - (r2.length : Int) := by rw [HRL.out]; omega
      have hsub2 : (l.length : Int) - (r2.length : Int) ≤ 9223372036854775807 := by omega
      go_wp2_with fail
      refine wp_region_quiet_below (by kernel_rfl) (by kernel_rfl) ?_
      repeat (first | go_big_quiet_step (fail) | quiet_step (fail))
      refine wpQuiet_nil ?_
      intro _ hw'
      obtain ⟨⟨dq, osq⟩, hw''⟩ := hw'
      subst hw''
      have bq := below_regrown w2 dq osq
      have HB3 := Lib.hid (below_on HB2.out bq)
      have HR3 := Lib.hid (own_later HR2.out bq)
      clear bq
      go_wp2
      go_ret3
      have hk : (l.length : Int) - (r2.length : Int) = (a : Int) := by rw [HRL.out]; omega
      exact ⟨_, x, _, _, rfl, HX.out.1, HX.out.2, HR3.out, HB3.out, .inl ⟨a, HPN.out, hk, rfl⟩⟩

set_option maxRecDepth 100000 in
set_option maxHeartbeats 6400000 in
theorem dbeg_sp (FMC : ∀ (A : Option Addr) (c : Nat) (l : List (Int × Int)) (w : World), OneL w A c l → Calls Try.prog 57 #[.slice A l.length c] w (Says (.bool (Sp.fmd l)) w)) (A : Option Addr) (c : Nat) (l : List Int) (w : World) (h : OneB w A c l) :
    Calls Try.prog 59 #[.slice A l.length c, .func (.func 60) #[] #[], .func (.func 57) #[] #[]] w (BegL 95 2 stCells (fun s : Int × Int => Wi.fit s.1 ∧ Wi.fit s.2) 128 (fun a => Wi.such Sp.fmd (Wi.plistm 128 (Wi.ptwo l) l a)) w) := by
  obtain ⟨W, hW⟩ : ∃ W, w.alloc (.cells #[.slice A l.length c, .bool false] 126) = W := ⟨_, rfl⟩
  have hd0 := DRd.start h
  rw [hW] at hd0
  have hb0 : Below w.heap.size w W := by rw [← hW]; exact below_new (Below.refl _ _) _
  obtain ⟨g, hg⟩ : ∃ g, w.heap.size = g := ⟨_, rfl⟩
  rw [hg] at hd0
  have hWs := hb0.size
  have CK := Lib.hid (drset_any g l (some 0) W hd0)
  have HG := Lib.hid hg; have HW := Lib.hid hW; have HB0 := Lib.hid hb0; have FM := Lib.hid FMC
  have hgw : w.heap.size ≤ g := by omega
  have hll := h.len
  have HH := Lib.hid h
  clear hW hd0 hb0 hg FMC h
  go_enter Try.func59, Try.ntmps59
  go_wp2_with fail
  rw [HW.out]
  try rw [HG.out]
  refine CK.out.mono ?_
  rintro e w1 ⟨v, x, rfl, hx, fx, hrow, hd, ho, hgot⟩
  have hb1 : Below w.heap.size w w1 := HB0.out.trans (ho.to_below hWs hgw)
  obtain ⟨AX, cx, hv, -⟩ := own_form hrow
  subst hv
  have r1 := own_base hrow hWs
  have hno := oneL_own r1
  have CF := Lib.hid (FM.out AX cx x w1 hno)
  have HR1 := Lib.hid r1; have HB1 := Lib.hid hb1; have HX := Lib.hid (And.intro hx fx); have GT := Lib.hid hgot
  obtain ⟨A2, c2, r2, b2, hB, hO2, -, hL⟩ := hd
  have z1 := hB.cell (i := 1) rfl
  have hlen2 := hO2.len
  have HBK := Lib.hid hB
  obtain ⟨s1, hs1⟩ : ∃ s1, Wi.nxt (Wi.plistm 128 (Wi.ptwo l) l) (some 0) = s1 := ⟨_, rfl⟩
  rw [hs1] at hL
  have HS1 := Lib.hid hs1
  clear hrow r1 hno hb1 hx fx hgot hB ho hO2 hs1 FM HB0 CK
  cases s1 with
  | none =>
    obtain ⟨-, rfl⟩ := hL
    have hpn := such_none (f := Sp.fmd) (p_none HS1.out)
    have HPN := Lib.hid hpn
    clear hpn
    go_wp2
    go_ret3
    exact ⟨_, [], _, _, rfl, Nat.zero_le _, (fun _ h => by cases h), own_none _ _ _ _, HB1.out, .inr ⟨HPN.out, rfl, rfl, rfl⟩⟩
  | some a =>
    obtain ⟨ha, hr2, rfl⟩ := hL
    have hps := p_of_got HS1.out GT.out
    obtain ⟨fb, hfb⟩ : ∃ fb, Sp.fmd x = fb := ⟨_, rfl⟩
    rw [hfb] at CF
    have hrl : r2.length = l.length - a := by rw [hr2, List.length_drop]
    cases fb with
    | false =>
      have hpn := such_no hps hfb
      have HPN := Lib.hid hpn
      clear hpn hps hfb hr2 hrl
      go_wp2_with fail
      refine CF.out.mono ?_
      rintro e w2 ⟨rfl, b2⟩
      have HB2 := Lib.hid (below_on HB1.out b2)
      clear b2 CF
      go_wp2
      go_ret3
      exact ⟨_, [], _, _, rfl, Nat.zero_le _, (fun _ h => by cases h), own_none _ _ _ _, HB2.out, .inr ⟨HPN.out, rfl, rfl, rfl⟩⟩
    | true =>
      have hpn := such_yes hps hfb
      have HPN := Lib.hid hpn; have HRL := Lib.hid hrl
      clear hpn hps hfb hr2 hrl
      go_wp2_with fail
      refine CF.out.mono ?_
      rintro e w2 ⟨rfl, b2⟩
      have HB2 := Lib.hid (below_on HB1.out b2)
      have hB2 := HBK.out.later b2
      have z0 := hB2.cell (i := 0) rfl
      have k0 := fun d os => cell_regrown (d := d) (os := os) z0
      have HR2 := Lib.hid (own_later HR1.out b2)
      clear b2 CF hB2 z0 z1
      have hsub1 : (0 : Int) ≤ (l.length : Int) - (r2.length : Int) := by rw [HRL.out]; omega
      have hsub2 : (l.length : Int) - (r2.length : Int) ≤ 9223372036854775807 := by omega
      go_wp2_with fail
      refine wp_region_quiet_below (by kernel_rfl) (by kernel_rfl) ?_
      repeat (first | go_big_quiet_step (fail) | quiet_step (fail))
      refine wpQuiet_nil ?_
      intro _ hw'
      obtain ⟨⟨dq, osq⟩, hw''⟩ := hw'
      subst hw''
      have bq := below_regrown w2 dq osq
      have HB3 := Lib.hid (below_on HB2.out bq)
      have HR3 := Lib.hid (own_later HR2.out bq)
      clear bq
      go_wp2
      go_ret3
      have hk : (l.length : Int) - (r2.length : Int) = (a : Int) := by rw [HRL.out]; omega
      exact ⟨_, x, _, _, rfl, HX.out.1, HX.out.2, HR3.out, HB3.out, .inl ⟨a, HPN.out, hk, rfl⟩⟩

end Go.Proofs.Ytbbmngabbbehcaa
namespace Go.Proofs.Ytbbmngabbbehcaa
open Go.RowKit

section
variable {P : Program} {ops : Array Oper} {md : Region.Mode} {Q : Exit → Act → World → Prop}

theorem wpAny_facts3 {n : Nat} (hB : factsB md ops n = true) (T : (Nat → Value) → Act) (Φ : Nat → (Nat → Value) → World → Prop) (Rel : World → World → Prop) (trans : ∀ {w1 w2 w3}, Rel w1 w2 → Rel w2 w3 → Rel w1 w3) (W0 : World)
    (loc : ∀ i k v x w, k ≠ i → k ∉ deps md ops i → Φ i v w → Φ i (upd v k x) w)
    (step : ∀ i, i < n → ∀ v w, Rel W0 w → (∀ j ∈ deps md ops i, Φ j v w) → wpOp P ops Q i (fun a' w' => ∃ x, a' = T (upd v i x) ∧ Rel w w' ∧ Φ i (upd v i x) w' ∧ ∀ j, j < n → j ≠ i → Φ j v w → Φ j v w') (T v) w)
    (done : ∀ v w, Rel W0 w → (∀ i, i < n → Φ i v w) → wpList P ops Q (ops.toList.drop n) (T v) w) :
    ∀ (f : Nat) (listed : Array Bool) (v : Nat → Value) (w : World), HeadInv md ops n listed → cntTo listed n = f → Rel W0 w → (∀ i, i < n → listed.getD i true = true → Φ i v w) → (∀ i, i < n → listed.getD i true = true → ∀ j ∈ deps md ops i, listed.getD j true = true) → wpAny P md ops Q (f + (ops.size - n)) listed (T v) w := by
  simp only [factsB, Bool.and_eq_true, decide_eq_true_eq] at hB
  obtain ⟨⟨⟨⟨hn, hs⟩, hc⟩, hd⟩, hq⟩ := hB
  intro f
  induction f with
  | zero =>
    intro listed v w inv hcnt hb hfacts _
    have hall := cntTo_zero listed n hcnt
    have he : listed = headListed ops.size n := by
      apply Array.ext
      · rw [inv.size]; simp [headListed]
      · intro i h1 h2
        have hi : i < ops.size := by rw [← inv.size]; exact h1
        have e2 : (headListed ops.size n)[i] = decide (i < n) := by simp [headListed]
        rw [e2]
        by_cases hin : i < n
        · have := hall i hin
          simp [h1] at this
          rw [this, decide_eq_true hin]
        · have := inv.tail i (by omega) hi
          simp [h1] at this
          rw [this, decide_eq_false hin]
    rw [Nat.zero_add]
    have hl : (ops.toList.drop n).length = ops.size - n := by simp
    rw [← hl]
    refine wpAny_of_seq (ops.toList.drop n) n listed _ w (fun j => by simp) ?_ (done v w hb (fun i hi => hfacts i hi (hall i hi)))
    rw [hl, he]
    exact hq
  | succ f ih =>
    intro listed v w inv hcnt hb hfacts hclosed
    obtain ⟨m, hm1, hm2, hm3⟩ := cntTo_pos listed n (by omega)
    have hmr : m ∈ Region.ready md ops listed := by
      have hms : m < ops.size := by omega
      refine mem_ready.2 ⟨hm2, ops[m], Array.getElem?_eq_getElem hms, fun e he hbind => ?_⟩
      have h1 := List.all_eq_true.1 hd m (List.mem_range.2 hms)
      have h2 : e.on ∈ deps md ops m := by
        unfold deps
        rw [Array.getElem?_eq_getElem hms]
        exact List.mem_map.2 ⟨e, List.mem_filter.2 ⟨Array.mem_toList_iff.2 he, hbind⟩, rfl⟩
      have h3 := of_decide_eq_true (List.all_eq_true.1 h1 _ h2)
      have h4 := hm3 e.on h3
      have h5 : e.on < listed.size := by rw [inv.size]; omega
      simp [h5] at h4 ⊢
      exact h4
    rw [show f + 1 + (ops.size - n) = (f + (ops.size - n)) + 1 from by omega]
    refine ⟨fun h0 => (by rw [h0] at hmr; cases hmr), fun i hi => ?_⟩
    have hin : i < n := by
      rcases Nat.lt_or_ge i n with h | h
      · exact h
      · exact absurd hi (tail_waits hs hc hn inv _ m rfl hm1 hm2 i h)
    obtain ⟨hun, oi, hoi, hafter⟩ := mem_ready.1 hi
    have hdl : ∀ j ∈ deps md ops i, listed.getD j true = true ∧ j < n := by
      intro j hj
      unfold deps at hj
      rw [hoi] at hj
      obtain ⟨e, he, rfl⟩ := List.mem_map.1 hj
      obtain ⟨he1, he2⟩ := List.mem_filter.1 he
      have h1 := hafter e (Array.mem_toList_iff.1 he1) he2
      have h2 : e.on < listed.size := by
        rcases Nat.lt_or_ge e.on listed.size with h' | h'
        · exact h'
        · simp [Array.getElem?_eq_none h'] at h1
      have h3 : listed.getD e.on true = true := by simp [h2] at h1 ⊢; exact h1
      refine ⟨h3, ?_⟩
      rcases Nat.lt_or_ge e.on n with h' | h'
      · exact h'
      · have := inv.tail e.on h' (by rw [← inv.size]; exact h2)
        rw [h3] at this
        cases this
    have keep : ∀ j, listed.getD j true = true → (listed.setIfInBounds i true).getD j true = true := fun j hj => by
      by_cases e : j = i
      · subst e; rw [hj] at hun; cases hun
      · rw [getD_set_ne true (fun h => e h.symm)]; exact hj
    refine wpOp_mono ?_ (step i hin v w hb (fun j hj => hfacts j (hdl j hj).2 (hdl j hj).1))
    rintro a' w' ⟨x, rfl, hb', hx, hst⟩
    refine ih _ (upd v i x) w' (inv.set hi hin) (by have := cntTo_set listed i hun n hin; omega) (trans hb hb') (fun j hj hl => ?_) (fun j hj hl d hdj => ?_)
    · by_cases e : j = i
      · subst e
        exact hx
      · rw [getD_set_ne true (fun h => e h.symm)] at hl
        refine loc j i v x w' (fun h => e h.symm) (fun h => ?_) (hst j hj e (hfacts j hj hl))
        have := hclosed j hj hl i h
        rw [hun] at this
        cases this
    · by_cases e : j = i
      · subst e
        exact keep d (hdl d hdj).1
      · rw [getD_set_ne true (fun h => e h.symm)] at hl
        exact keep d (hclosed j hj hl d hdj)

/-- **A region that draws its order, whose operations make memory, and one of which may store into what another one made:** what is known of an operation may speak of what those have yielded for which it waited. -/
theorem wp_region_facts3 {id : Nat} {l : List Oper} {w : World} (n : Nat) (hm : P.follows .mixedOrders = true) (hB : factsB .any l.toArray n = true) (T : (Nat → Value) → Act) (v0 : Nat → Value) (Φ : Nat → (Nat → Value) → World → Prop) (Rel : World → World → Prop) (trans : ∀ {w1 w2 w3}, Rel w1 w2 → Rel w2 w3 → Rel w1 w3) (hself : ∀ w, Rel w w) (hdrew : Rel w w.drew)
    (loc : ∀ i k v x w, k ≠ i → k ∉ deps .any l.toArray i → Φ i v w → Φ i (upd v k x) w)
    (step : ∀ i, i < n → ∀ v w', Rel w w' → (∀ j ∈ deps .any l.toArray i, Φ j v w') → wpOp P l.toArray Q i (fun a' w'' => ∃ x, a' = T (upd v i x) ∧ Rel w' w'' ∧ Φ i (upd v i x) w'' ∧ ∀ j, j < n → j ≠ i → Φ j v w' → Φ j v w'') (T v) w')
    (done : ∀ v w', Rel w w' → (∀ i, i < n → Φ i v w') → wpList P l.toArray Q (l.drop n) (T v) w') :
    (Code.region id l.toArray true).wp P Q (T v0) w := by
  refine wp_region_any hm ?_
  have hn : n < l.toArray.size := by
    simp only [factsB, Bool.and_eq_true, decide_eq_true_eq] at hB
    exact hB.1.1.1.1
  have hw : ∀ w', Rel { w with drawn := w.drawn + 1 } w' → Rel w w' := fun w' h => trans hdrew h
  have hno : ∀ i, i < n → (Array.replicate l.toArray.size false).getD i true = true → False := fun i hi hl => by
    rw [Array.getD_eq_getD_getElem?, Array.getElem?_replicate, if_pos (by omega)] at hl
    cases hl
  have h := wpAny_facts3 hB T Φ Rel trans { w with drawn := w.drawn + 1 } loc (fun i hi v w' hb hd => step i hi v w' (hw w' hb) hd) (fun v w' hb hf => done v w' (hw w' hb) hf)
    n (Array.replicate l.toArray.size false) v0 { w with drawn := w.drawn + 1 }
    ⟨by simp, fun j oj hj hl => (by rw [getD_replicate_false] at hl; cases hl), fun t ht ht' => (by rw [Array.getD_eq_getD_getElem?, Array.getElem?_replicate, if_pos ht']; rfl)⟩ (cntTo_none _ n (by omega)) (hself _) (fun i hi hl => (hno i hi hl).elim) (fun i hi hl => (hno i hi hl).elim)
  rw [show n + (l.toArray.size - n) = l.toArray.size from by omega] at h
  exact h
/-- One operation, walked as a list of one, with the way out behind a letter. -/
theorem wpOp_oneK {i : Nat} {o : Oper} {K : Act → World → Prop} {a : Act} {w : World} (ho : ops[i]? = some o) (h : ∀ K' : Act → World → Prop, (∀ a w, K a w → K' a w) → wpList P ops (Exit.then K' Q) [o] a w) : wpOp P ops Q i K a w := wpOp_one ho (h K (fun _ _ h => h))
end

/-- A block of slices alone. -/
def allSl : Obj → Bool
  | .cells cs _ _ => cs.all isSl
  | _ => false
/-- All that lay below B, and whatever is no block of slices alone, is as it was. -/
def RelS (B : Nat) (w w' : World) : Prop := Below B w w' ∧ ∀ (k : Nat) (o : Obj), w.heap[k]? = some o → allSl o = false → w'.heap[k]? = some o
section
variable {B : Nat} {w w' : World}
theorem RelS.refl (B : Nat) (w : World) : RelS B w w := ⟨Below.refl _ _, fun _ _ h _ => h⟩
theorem RelS.trans {w1 w2 w3 : World} (h : RelS B w1 w2) (k : RelS B w2 w3) : RelS B w1 w3 := ⟨h.1.trans k.1, fun i o h1 h2 => k.2 i o (h.2 i o h1 h2) h2⟩
theorem RelS.drew (w : World) : RelS B w w.drew := ⟨Below.drew (Below.refl _ _), fun _ _ h _ => h⟩
theorem RelS.below (hB : B ≤ w.heap.size) (h : Below w.heap.size w w') : RelS B w w' := ⟨h.mono hB, fun k _ h1 _ => (h.block k (Array.getElem?_eq_some_iff.1 h1).1).trans h1⟩
theorem RelS.set {g : Nat} {t : TypeId} {cs : Array Value} (hg : B ≤ g) (hb : Blk w g t cs) (hs : cs.all isSl = true) (i : Nat) (u : Value) : RelS B w (w.setCell ⟨g, i, none⟩ u) :=
  ⟨(Below.refl _ _).setCell (p := ⟨g, i, none⟩) hg u, fun k o h1 h2 => (Below.heap_setCell w ⟨g, i, none⟩ u k (fun e => by
    have e : k = g := e
    subst e
    rw [show w.heap[k]? = some _ from hb] at h1
    cases h1
    rw [show allSl _ = cs.all isSl from rfl, hs] at h2
    cases h2)).trans h1⟩
theorem RelS.lies {A : Option Addr} {xs : List Value} (h : RelS B w w') (hx : ∀ u ∈ xs, isSl u = false) (hl : Lies w A xs) : Lies w' A xs := fun hne => by
  obtain ⟨b, off, hA, hc⟩ := hl hne
  refine ⟨b, off, hA, fun j u hu => ?_⟩
  have h1 := hc j u hu
  obtain ⟨o, ho, hoc⟩ := cells_of_cell h1
  cases o with
  | cells cs t fr =>
    refine (World.cell?_of_block ((h.2 b _ ho ?_).trans ho.symm)).trans h1
    show allSl (.cells cs t fr) = false
    cases ha : allSl (.cells cs t fr) with
    | false => rfl
    | true =>
      have hcell : cs[off + j]? = some u := by
        unfold World.cell? at h1
        rw [show w.heap[b]? = _ from ho] at h1
        simpa using h1
      have h2 := Array.all_eq_true_iff_forall_mem.1 (show cs.all isSl = true from ha) u (Array.mem_of_getElem? hcell)
      rw [hx u (List.mem_of_getElem? hu)] at h2
      cases h2
  | _ => simp [Obj.isCells] at hoc
theorem OneL.relS {A : Option Addr} {c : Nat} {l : List (Int × Int)} (h : OneL w A c l) (r : RelS B w w') : OneL w' A c l := ⟨h.1, h.2.1, h.2.2.1, r.lies (stCells_noSl l) h.2.2.2⟩
theorem OneW.relS {A : Option Addr} {c : Nat} {l : List Wr} (h : OneW w A c l) (r : RelS B w w') : OneW w' A c l := ⟨h.1, h.2.1, h.2.2.1, r.lies (wrCells_noSl l) h.2.2.2⟩
theorem NoteAt.relS {S E V' V : Option Addr} {cs ce cb cv : Nat} {n : Note} (h : NoteAt w S E V' V cs ce cb cv n) (r : RelS B w w') : NoteAt w' S E V' V cs ce cb cv n := ⟨h.hs.relS r, h.he.relS r, h.hb.relS r, h.hv.relS r⟩
theorem RelS.puts {g : Nat} {t : TypeId} {y0 y1 y2 y3 : Value} (hg : B ≤ g) (hb : Blk w g t #[y0, y1, y2, y3]) (hy : isSl y0 = true ∧ isSl y1 = true ∧ isSl y2 = true ∧ isSl y3 = true) (x0 x1 x2 x3 : Value) (hx : isSl x0 = true ∧ isSl x1 = true ∧ isSl x2 = true) :
    RelS B w ((((w.setCell ⟨g, 0, none⟩ x0).setCell ⟨g, 1, none⟩ x1).setCell ⟨g, 2, none⟩ x2).setCell ⟨g, 3, none⟩ x3) := by
  obtain ⟨e0, e1, e2, e3⟩ := hy
  obtain ⟨f0, f1, f2⟩ := hx
  have B1 : Blk (w.setCell ⟨g, 0, none⟩ x0) g t #[x0, y1, y2, y3] := hb.put 0 x0
  have B2 : Blk ((w.setCell ⟨g, 0, none⟩ x0).setCell ⟨g, 1, none⟩ x1) g t #[x0, x1, y2, y3] := B1.put 1 x1
  have B3 : Blk (((w.setCell ⟨g, 0, none⟩ x0).setCell ⟨g, 1, none⟩ x1).setCell ⟨g, 2, none⟩ x2) g t #[x0, x1, x2, y3] := B2.put 2 x2
  refine (((RelS.set hg hb ?_ 0 x0).trans (RelS.set hg B1 ?_ 1 x1)).trans (RelS.set hg B2 ?_ 2 x2)).trans (RelS.set hg B3 ?_ 3 x3)
  all_goals simp [*]
end

/-- What is known of the operations that make a note, lay a cell for it and store it there. -/
def TwF (B : Nat) (t : TypeId) (k0 k1 k2 : Value) (m : List (Int × Int)) (Y : Note) (i : Nat) (v : Nat → Value) (wx : World) : Prop := match i with
  | 0 => v 0 = k0
  | 1 => v 1 = k1
  | 2 => v 2 = k2
  | 3 => ∃ A c, v 3 = .slice A m.length c ∧ OneL wx A c m
  | 4 => ∃ S E V' V cs ce cb cv, v 4 = .tuple #[.agg (noteCells S E V' V cs ce cb cv Y), .int .i64 0] ∧ NoteAt wx S E V' V cs ce cb cv Y
  | 5 => ∃ S E V' V cs ce cb cv, v 5 = .tuple #[.agg (noteCells S E V' V cs ce cb cv Y), .int .i64 0] ∧ NoteAt wx S E V' V cs ce cb cv Y
  | 6 => ∃ S E V' V cs ce cb cv, v 6 = .agg (noteCells S E V' V cs ce cb cv Y) ∧ NoteAt wx S E V' V cs ce cb cv Y
  | 7 => v 7 = .int .i64 0
  | 8 => ∃ g y0 y1 y2 y3, v 8 = .pointer (some ⟨g, 0, none⟩) ∧ B ≤ g ∧ Blk wx g t #[y0, y1, y2, y3] ∧ isSl y0 = true ∧ isSl y1 = true ∧ isSl y2 = true ∧ isSl y3 = true
  | 9 => ∃ g S E V' V cs ce cb cv, v 8 = .pointer (some ⟨g, 0, none⟩) ∧ B ≤ g ∧ Blk wx g t (noteCells S E V' V cs ce cb cv Y) ∧ NoteAt wx S E V' V cs ce cb cv Y
  | _ => True
section
variable {B : Nat} {t : TypeId} {k0 k1 k2 : Value} {m : List (Int × Int)} {Y : Note}
theorem TwF.later {i : Nat} {v : Nat → Value} {w w' : World} (h : TwF B t k0 k1 k2 m Y i v w) (hb : Below w.heap.size w w') : TwF B t k0 k1 k2 m Y i v w' := by
  match i, h with
  | 0, h => exact h
  | 1, h => exact h
  | 2, h => exact h
  | 3, ⟨A, c, h1, h2⟩ => exact ⟨A, c, h1, h2.later hb⟩
  | 4, ⟨S, E, V', V, cs, ce, cb, cv, h1, h2⟩ => exact ⟨S, E, V', V, cs, ce, cb, cv, h1, h2.later hb⟩
  | 5, ⟨S, E, V', V, cs, ce, cb, cv, h1, h2⟩ => exact ⟨S, E, V', V, cs, ce, cb, cv, h1, h2.later hb⟩
  | 6, ⟨S, E, V', V, cs, ce, cb, cv, h1, h2⟩ => exact ⟨S, E, V', V, cs, ce, cb, cv, h1, h2.later hb⟩
  | 7, h => exact h
  | 8, ⟨g, y0, y1, y2, y3, h1, h2, h3, h4⟩ => exact ⟨g, y0, y1, y2, y3, h1, h2, h3.later hb, h4⟩
  | 9, ⟨g, S, E, V', V, cs, ce, cb, cv, h1, h2, h3, h4⟩ => exact ⟨g, S, E, V', V, cs, ce, cb, cv, h1, h2, h3.later hb, h4.later hb⟩
  | i + 10, _ => trivial
theorem TwF.loc {i k : Nat} {v : Nat → Value} {x : Value} {w : World} (hk : k ≠ i) (h8 : i = 9 → k ≠ 8) (h : TwF B t k0 k1 k2 m Y i v w) : TwF B t k0 k1 k2 m Y i (upd v k x) w := by
  have e : ∀ j, k ≠ j → upd v k x j = v j := fun j hj => upd_other v k x (fun e => hj e.symm)
  match i, hk, h8, h with
  | 0, hk, _, h => unfold TwF at h ⊢; simp only [e 0 hk]; exact h
  | 1, hk, _, h => unfold TwF at h ⊢; simp only [e 1 hk]; exact h
  | 2, hk, _, h => unfold TwF at h ⊢; simp only [e 2 hk]; exact h
  | 3, hk, _, h => unfold TwF at h ⊢; simp only [e 3 hk]; exact h
  | 4, hk, _, h => unfold TwF at h ⊢; simp only [e 4 hk]; exact h
  | 5, hk, _, h => unfold TwF at h ⊢; simp only [e 5 hk]; exact h
  | 6, hk, _, h => unfold TwF at h ⊢; simp only [e 6 hk]; exact h
  | 7, hk, _, h => unfold TwF at h ⊢; simp only [e 7 hk]; exact h
  | 8, hk, _, h => unfold TwF at h ⊢; simp only [e 8 hk]; exact h
  | 9, _, h8, h => unfold TwF at h ⊢; simp only [e 8 (h8 rfl)]; exact h
  | i + 10, _, _, _ => trivial
/-- The store: all else stays. -/
theorem TwF.store {v : Nat → Value} {w : World} {g : Nat} {y0 y1 y2 y3 x0 x1 x2 x3 : Value} (hv : v 8 = .pointer (some ⟨g, 0, none⟩)) (hg : B ≤ g) (hb : Blk w g t #[y0, y1, y2, y3]) (hy : isSl y0 = true ∧ isSl y1 = true ∧ isSl y2 = true ∧ isSl y3 = true) (hx : isSl x0 = true ∧ isSl x1 = true ∧ isSl x2 = true ∧ isSl x3 = true)
    (j : Nat) (hj : j < 10) (hne : j ≠ 9) (h : TwF B t k0 k1 k2 m Y j v w) : TwF B t k0 k1 k2 m Y j v ((((w.setCell ⟨g, 0, none⟩ x0).setCell ⟨g, 1, none⟩ x1).setCell ⟨g, 2, none⟩ x2).setCell ⟨g, 3, none⟩ x3) := by
  have r := RelS.puts hg hb hy x0 x1 x2 x3 ⟨hx.1, hx.2.1, hx.2.2.1⟩
  match j, hj, hne, h with
  | 0, _, _, h => exact h
  | 1, _, _, h => exact h
  | 2, _, _, h => exact h
  | 3, _, _, ⟨A, c, h1, h2⟩ => exact ⟨A, c, h1, h2.relS r⟩
  | 4, _, _, ⟨S, E, V', V, cs, ce, cb, cv, h1, h2⟩ => exact ⟨S, E, V', V, cs, ce, cb, cv, h1, h2.relS r⟩
  | 5, _, _, ⟨S, E, V', V, cs, ce, cb, cv, h1, h2⟩ => exact ⟨S, E, V', V, cs, ce, cb, cv, h1, h2.relS r⟩
  | 6, _, _, ⟨S, E, V', V, cs, ce, cb, cv, h1, h2⟩ => exact ⟨S, E, V', V, cs, ce, cb, cv, h1, h2.relS r⟩
  | 7, _, _, h => exact h
  | 8, _, _, _ => exact ⟨g, x0, x1, x2, x3, hv, hg, (((hb.put 0 x0).put 1 x1).put 2 x2).put 3 x3, hx⟩
  | 9, _, hne, _ => exact absurd rfl hne
end

end Go.Proofs.Ytbbmngabbbehcaa
namespace Go.Proofs.Ytbbmngabbbehcaa
open Go.RowKit

def zeroMs : Ms := ⟨0, 0, 0, 0, 0, [], [], [], zeroBd⟩
theorem MsOwn.zero (w : World) (base : Nat) : MsOwn w base none none none none 0 0 0 0 zeroMs := ⟨own_none _ _ _ _, own_none _ _ _ _, NotesOwn.nil _ _, own_none _ _ _ _, (fun _ h => by cases h)⟩
theorem MsSm.zero : MsSm zeroMs := ⟨fit_zero, fit_zero, fit_zero, fit_zero, fit_zero, ⟨Nat.zero_le _, (fun _ h => by cases h)⟩, ⟨Nat.zero_le _, (fun _ h => by cases h)⟩, ⟨Nat.zero_le _, (fun _ h => by cases h)⟩, ⟨fit_zero, fit_zero, fit_zero⟩⟩
theorem NoteOwn.zero (w : World) (base : Nat) : NoteOwn w base none none none none 0 0 0 0 zeroN := ⟨own_none _ _ _ _, own_none _ _ _ _, own_none _ _ _ _, own_none _ _ _ _⟩
theorem NoteSm.zero : NoteSm zeroN := ⟨⟨(fun _ h => by cases h), (fun _ h => by cases h), (fun _ h => by cases h), (fun _ h => by cases h)⟩, Nat.zero_le _, Nat.zero_le _, Nat.zero_le _, Nat.zero_le _⟩
/-- A body whose value lies in memory of the call's own. -/
structure BdOwn (w : World) (base : Nat) (D : Option Addr) (d : Nat) (x : Bd) : Prop where
  v : w.ownsRow base 5 1 (.slice D x.v.length d) x.v.length (bCells x.v)
  by_ : ∀ y ∈ x.v, isB y
theorem Only.row (w : World) (g : Nat) (cs : Array Value) : Only g w (w.setRow g cs) :=
  ⟨rfl, rfl, rfl, by simp [World.setRow], fun k _ hk => setRow_other _ _ _ _ hk⟩
theorem MsOwn.only {w w1 : World} {base g : Nat} {I V N D : Option Addr} {ci cv cn d : Nat} {m : Ms} (h : MsOwn w base I V N D ci cv cn d m) (ho : Only g w w1) (hg : g < base) : MsOwn w1 base I V N D ci cv cn d m := ⟨ho.own h.it hg, ho.own h.vc hg, h.ns.only ho hg, ho.own h.bd hg, h.by_⟩
theorem BdOwn.only {w w1 : World} {base g : Nat} {D : Option Addr} {d : Nat} {x : Bd} (h : BdOwn w base D d x) (ho : Only g w w1) (hg : g < base) : BdOwn w1 base D d x := ⟨ho.own h.v hg, h.by_⟩
theorem BdOwn.later {w w1 : World} {base : Nat} {D : Option Addr} {d : Nat} {x : Bd} (h : BdOwn w base D d x) (hb : Below w.heap.size w w1) : BdOwn w1 base D d x := ⟨own_later h.v hb, h.by_⟩
theorem BdOwn.set {w : World} {base : Nat} {D : Option Addr} {d : Nat} {x : Bd} (h : BdOwn w base D d x) {k : Nat} (hk : k < base) (i : Nat) (u : Value) : BdOwn (w.setCell ⟨k, i, none⟩ u) base D d x := ⟨own_set h.v hk i u, h.by_⟩
theorem BdOwn.down {w : World} {base base' : Nat} {D : Option Addr} {d : Nat} {x : Bd} (h : BdOwn w base D d x) (hb : base' ≤ base) : BdOwn w base' D d x := ⟨own_base h.v hb, h.by_⟩
theorem BdOwn.zero (w : World) (base : Nat) : BdOwn w base none 0 zeroBd := ⟨own_none _ _ _ _, (fun _ h => by cases h)⟩
structure BdSm (x : Bd) : Prop where
  o : Wi.fit x.o
  c : Wi.fit x.c
  n : Wi.fit x.n
theorem BdSm.zero : BdSm zeroBd := ⟨fit_zero, fit_zero, fit_zero⟩
/-- A region of reads with one store: the world is the one ahead of the store, or behind it. -/
structure BgI (BS ST : World) (C : Nat → Value → Prop) (L : Nat → Bool) (v : Nat → Value) (w : World) : Prop where
  w : w = (if L 9 then ST else BS)
  c : ∀ i, i < 9 → L i = true → C i (v i)
theorem BgI.still {BS ST : World} {C : Nat → Value → Prop} {L : Nat → Bool} {v : Nat → Value} {w : World} (h : BgI BS ST C L v w) {i : Nat} {z : Value} (hz : C i z) (hi : i ≠ 9) : BgI BS ST C (fun j => if j = i then true else L j) (upd v i z) w := by
  refine ⟨?_, fun q hq hl => ?_⟩
  · rw [h.w]
    simp [show (9 : Nat) ≠ i from fun e => hi e.symm]
  · by_cases e : q = i
    · subst e; rw [upd_same]; exact hz
    · rw [upd_other v i z e]; exact h.c q hq (by simpa [e] using hl)
theorem BgI.store {BS ST : World} {C : Nat → Value → Prop} {L : Nat → Bool} {v : Nat → Value} {w : World} (h : BgI BS ST C L v w) (z : Value) : BgI BS ST C (fun j => if j = 9 then true else L j) (upd v 9 z) ST := by
  refine ⟨by simp, fun q hq hl => ?_⟩
  rw [upd_other v 9 z (by omega)]
  exact h.c q hq (by simpa [show q ≠ 9 by omega] using hl)
theorem Blk.put4 {w : World} {g : Nat} {t : TypeId} {z0 z1 z2 z3 : Value} (h : Blk w g t #[z0, z1, z2, z3]) (a0 a1 a2 a3 : Value) : Blk ((((w.setCell ⟨g, 0, none⟩ a0).setCell ⟨g, 1, none⟩ a1).setCell ⟨g, 2, none⟩ a2).setCell ⟨g, 3, none⟩ a3) g t #[a0, a1, a2, a3] :=
  (((h.put 0 a0).put 1 a1).put 2 a2).put 3 a3

/-- What begun answers: a thing that is as it must be, with how many bytes it has, or the error. -/
def BegM (p : Nat → Option (Ms × Nat)) (w : World) (e : Ending) (w' : World) : Prop :=
  ∃ I V N D ci cv cn d x k er, e = .returned (.tuple #[.agg (msCells I V N D ci cv cn d x), .int .i64 k, .int .i64 er]) ∧ MsSm x ∧ MsOwn w' w.heap.size I V N D ci cv cn d x ∧ Below w.heap.size w w' ∧
    ((∃ a : Nat, p 0 = some (x, a) ∧ k = (a : Int) ∧ er = 0) ∨ (p 0 = none ∧ x = zeroMs ∧ k = 0 ∧ er = 4))

set_option maxRecDepth 100000 in
set_option maxHeartbeats 12800000 in
theorem dbeg_ms (A : Option Addr) (c : Nat) (l : List Int) (w : World) (hl : l.length ≤ 1099511627776) (h : OneB w A c l) :
    Calls Try.prog 82 #[.slice A l.length c, .func (.func 83) #[] #[], .func (.func 40) #[] #[]] w (BegM (fun a => Wi.such Wi.dmf (Wi.pmsgr l a)) w) := by
  obtain ⟨r0, hr0⟩ : ∃ r0, w.heap.size = r0 := ⟨_, rfl⟩
  obtain ⟨W, hW⟩ : ∃ W, (w.alloc (.cells #[.int .i64 0, .int .i64 0, .int .i64 0, .int .i64 0, .int .i64 0, .slice none 0 0, .slice none 0 0, .slice none 0 0, .int .i64 0, .int .i64 0, .int .i64 0, .slice none 0 0] 74)).alloc (.cells #[.slice A l.length c, .bool false] 126) = W := ⟨_, rfl⟩
  have hb0 : Below w.heap.size w W := by rw [← hW]; exact below_new (below_new (Below.refl _ _) _) _
  have hKR : Blk W r0 74 #[.int .i64 0, .int .i64 0, .int .i64 0, .int .i64 0, .int .i64 0, .slice none 0 0, .slice none 0 0, .slice none 0 0, .int .i64 0, .int .i64 0, .int .i64 0, .slice none 0 0] := by rw [← hW, ← hr0]; exact (Blk.new w _ _).alloc _
  obtain ⟨g, hg⟩ : ∃ g, r0 + 1 = g := ⟨_, rfl⟩
  have hd0 : DRd W g l (some 0) := by
    have := DRd.start (h.later (below_new (Below.refl _ _) (.cells #[.int .i64 0, .int .i64 0, .int .i64 0, .int .i64 0, .int .i64 0, .slice none 0 0, .slice none 0 0, .slice none 0 0, .int .i64 0, .int .i64 0, .int .i64 0, .slice none 0 0] 74)))
    rw [hW] at this
    rw [← hg, ← hr0]
    simpa using this
  have hWs : W.heap.size = r0 + 2 := by rw [← hW, ← hr0]; simp
  have CK := Lib.hid (drmsg_any g l (some 0) W hl hd0)
  have HR := Lib.hid hr0; have HG := Lib.hid hg; have HW := Lib.hid hW; have HB0 := Lib.hid hb0; have KR := Lib.hid hKR
  have hrw : w.heap.size ≤ r0 := by omega
  have hgw : w.heap.size ≤ g := by omega
  have hrg : r0 ≠ g := by omega
  have hW2 : r0 + 2 ≤ W.heap.size := by omega
  have hwW : w.heap.size ≤ W.heap.size := by omega
  have hll := h.len
  clear hW hd0 hb0 hg hr0 hKR h hWs
  go_enter Try.func82, Try.ntmps82
  go_wp2_with fail
  rw [HR.out, HG.out, HW.out]
  refine CK.out.mono ?_
  rintro e w1 ⟨I, V, N, D, ci, cv, cn, d, x, rfl, hsm, hown, hd, ho, hgot⟩
  skip
  skip
  unfold msCells
  have hs1 := ho.size
  have hb1 : Below w.heap.size w w1 := HB0.out.trans (ho.to_below hwW hgw)
  have kr1 := ho.blk KR.out hrg
  have hb10 := below_new (Below.refl w1.heap.size w1) (.cells #[.int .i64 x.k, .int .i64 x.f, .int .i64 x.t, .int .i64 x.s, .int .i64 x.q, .slice I x.it.length ci, .slice V x.vc.length cv, .slice N x.ns.length cn, .int .i64 x.bd.o, .int .i64 x.bd.c, .int .i64 x.bd.n, .slice D x.bd.v.length d] 74)
  have kx := Blk.new w1 74 #[.int .i64 x.k, .int .i64 x.f, .int .i64 x.t, .int .i64 x.s, .int .i64 x.q, .slice I x.it.length ci, .slice V x.vc.length cv, .slice N x.ns.length cn, .int .i64 x.bd.o, .int .i64 x.bd.c, .int .i64 x.bd.n, .slice D x.bd.v.length d]
  have kr2 := kr1.later hb10
  have CF := Lib.hid (dmf_any I V N D ci cv cn d x _ ((hown.at).later hb10))
  unfold msCells at CF
  obtain ⟨A2, c2, rr, b2, hB, hO2, -, hL⟩ := hd
  have hB2 := hB.later hb10
  have hb2 := below_on hb1 hb10
  have ho2 := hown.later hb10
  have hlen2 := hO2.len
  obtain ⟨W1, hW1⟩ : ∃ W1, w1.alloc (.cells #[.int .i64 x.k, .int .i64 x.f, .int .i64 x.t, .int .i64 x.s, .int .i64 x.q, .slice I x.it.length ci, .slice V x.vc.length cv, .slice N x.ns.length cn, .int .i64 x.bd.o, .int .i64 x.bd.c, .int .i64 x.bd.n, .slice D x.bd.v.length d] 74) = W1 := ⟨_, rfl⟩
  obtain ⟨bx, hbx⟩ : ∃ bx, w1.heap.size = bx := ⟨_, rfl⟩
  rw [hW1] at hB2 hb2 ho2 kx kr2 CF
  rw [hbx] at kx
  have hsx : r0 + 2 ≤ W1.heap.size := by rw [← hW1]; simp; omega
  have hsw2 : r0 + 2 ≤ bx := by omega
  obtain ⟨s1, hs1'⟩ : ∃ s1, Wi.nxt (Wi.pmsgr l) (some 0) = s1 := ⟨_, rfl⟩
  rw [hs1'] at hL
  have HW1 := Lib.hid hW1; have HBX := Lib.hid hbx; have HB2 := Lib.hid hb2; have HO2 := Lib.hid ho2; have HKX := Lib.hid kx; have HKR := Lib.hid kr2; have HKG := Lib.hid hB2; have HSM := Lib.hid hsm; have GT := Lib.hid hgot; have HS1 := Lib.hid hs1'
  clear hW1 hbx hb1 hb2 ho2 kx kr1 kr2 hB hB2 hO2 hsm hgot hs1' hown ho hb10 HB0 KR CK
  go_upto_region 3 with (fail)
  rw [HW1.out]
  rw [HBX.out]
  have z1 := HKG.out.cell (i := 1) rfl
  cases s1 with
  | none =>
    obtain ⟨-, rfl⟩ := hL
    have HPN := Lib.hid (such_none (f := Wi.dmf) (p_none HS1.out))
    have bz := below_new (Below.refl W1.heap.size W1) (.cells #[.int .i64 0, .int .i64 0, .int .i64 0, .int .i64 0, .int .i64 0, .slice none 0 0, .slice none 0 0, .slice none 0 0, .int .i64 0, .int .i64 0, .int .i64 0, .slice none 0 0] 74)
    have krz := HKR.out.later bz
    have kz := Blk.new W1 74 #[.int .i64 0, .int .i64 0, .int .i64 0, .int .i64 0, .int .i64 0, .slice none 0 0, .slice none 0 0, .slice none 0 0, .int .i64 0, .int .i64 0, .int .i64 0, .slice none 0 0]
    obtain ⟨q0, hq0⟩ : ∃ q, W1.heap.size = q := ⟨_, rfl⟩
    rw [hq0] at kz
    have hq2 : r0 ≠ q0 := by have := hsx; omega
    obtain ⟨W9, hW9⟩ : ∃ W9, (W1.alloc (.cells #[.int .i64 0, .int .i64 0, .int .i64 0, .int .i64 0, .int .i64 0, .slice none 0 0, .slice none 0 0, .slice none 0 0, .int .i64 0, .int .i64 0, .int .i64 0, .slice none 0 0] 74)) = W9 := ⟨_, rfl⟩
    have hb9 := below_on HB2.out bz
    rw [hW9] at kz krz hb9
    have hq1 : W1.heap.size = q0 := hq0
    have HW9 := Lib.hid hW9; have HQ1 := Lib.hid hq1
    clear hW9 hq1 hq0 bz
    have V1 := Lib.hid (krz.put12 (.int .i64 0) (.int .i64 0) (.int .i64 0) (.int .i64 0) (.int .i64 0) (.slice none 0 0) (.slice none 0 0) (.slice none 0 0) (.int .i64 0) (.int .i64 0) (.int .i64 0) (.slice none 0 0))
    have BZ := Lib.hid (((((((((((((hb9.setCell (p := ⟨r0, 0, none⟩) hrw _).setCell (p := ⟨r0, 1, none⟩) hrw _).setCell (p := ⟨r0, 2, none⟩) hrw _).setCell (p := ⟨r0, 3, none⟩) hrw _).setCell (p := ⟨r0, 4, none⟩) hrw _).setCell (p := ⟨r0, 5, none⟩) hrw _).setCell (p := ⟨r0, 6, none⟩) hrw _).setCell (p := ⟨r0, 7, none⟩) hrw _).setCell (p := ⟨r0, 8, none⟩) hrw _).setCell (p := ⟨r0, 9, none⟩) hrw _).setCell (p := ⟨r0, 10, none⟩) hrw _).setCell (p := ⟨r0, 11, none⟩) hrw _) : Below w.heap.size w ((((((((((((W9.setCell ⟨r0, 0, none⟩ (.int .i64 0)).setCell ⟨r0, 1, none⟩ (.int .i64 0)).setCell ⟨r0, 2, none⟩ (.int .i64 0)).setCell ⟨r0, 3, none⟩ (.int .i64 0)).setCell ⟨r0, 4, none⟩ (.int .i64 0)).setCell ⟨r0, 5, none⟩ (.slice none 0 0)).setCell ⟨r0, 6, none⟩ (.slice none 0 0)).setCell ⟨r0, 7, none⟩ (.slice none 0 0)).setCell ⟨r0, 8, none⟩ (.int .i64 0)).setCell ⟨r0, 9, none⟩ (.int .i64 0)).setCell ⟨r0, 10, none⟩ (.int .i64 0)).setCell ⟨r0, 11, none⟩ (.slice none 0 0)))
    go_upto_region 5 with (fail)
    rw [HW9.out]
    try rw [HQ1.out]
    have t0 := krz.free 0; have y0 := krz.cell (i := 0) rfl; have x0 := kz.cell (i := 0) rfl
    have t1 := krz.free 1; have y1 := krz.cell (i := 1) rfl; have x1 := kz.cell (i := 1) rfl
    have t2 := krz.free 2; have y2 := krz.cell (i := 2) rfl; have x2 := kz.cell (i := 2) rfl
    have t3 := krz.free 3; have y3 := krz.cell (i := 3) rfl; have x3 := kz.cell (i := 3) rfl
    have t4 := krz.free 4; have y4 := krz.cell (i := 4) rfl; have x4 := kz.cell (i := 4) rfl
    have t5 := krz.free 5; have y5 := krz.cell (i := 5) rfl; have x5 := kz.cell (i := 5) rfl
    have t6 := krz.free 6; have y6 := krz.cell (i := 6) rfl; have x6 := kz.cell (i := 6) rfl
    have t7 := krz.free 7; have y7 := krz.cell (i := 7) rfl; have x7 := kz.cell (i := 7) rfl
    have t8 := krz.free 8; have y8 := krz.cell (i := 8) rfl; have x8 := kz.cell (i := 8) rfl
    have t9 := krz.free 9; have y9 := krz.cell (i := 9) rfl; have x9 := kz.cell (i := 9) rfl
    have t10 := krz.free 10; have y10 := krz.cell (i := 10) rfl; have x10 := kz.cell (i := 10) rfl
    have t11 := krz.free 11; have y11 := krz.cell (i := 11) rfl; have x11 := kz.cell (i := 11) rfl
    clear krz kz hb9 z1
    go_wp2
    exact bodyPost_ret (results_cell_tmp2 (p := 6) (t1 := 7) (t2 := 8) (ty := 74) rfl _ _ r0 74 #[.int .i64 0, .int .i64 0, .int .i64 0, .int .i64 0, .int .i64 0, .slice none 0 0, .slice none 0 0, .slice none 0 0, .int .i64 0, .int .i64 0, .int .i64 0, .slice none 0 0] _ rfl V1.out Try.underlying74 rfl infoMs12) rfl
      ⟨none, none, none, none, 0, 0, 0, 0, zeroMs, _, _, rfl, MsSm.zero, MsOwn.zero _ _, BZ.out, .inr ⟨HPN.out, rfl, rfl, rfl⟩⟩
  | some a =>
    obtain ⟨ha, hr2, rfl⟩ := hL
    have hps := p_of_got HS1.out GT.out
    obtain ⟨fb, hfb⟩ : ∃ fb, Wi.dmf x = fb := ⟨_, rfl⟩
    rw [hfb] at CF
    have hrl : rr.length = l.length - a := by rw [hr2, List.length_drop]
    have c0 := HKX.out.cell (i := 0) rfl
    have c1 := HKX.out.cell (i := 1) rfl
    have c2 := HKX.out.cell (i := 2) rfl
    have c3 := HKX.out.cell (i := 3) rfl
    have c4 := HKX.out.cell (i := 4) rfl
    have c5 := HKX.out.cell (i := 5) rfl
    have c6 := HKX.out.cell (i := 6) rfl
    have c7 := HKX.out.cell (i := 7) rfl
    have c8 := HKX.out.cell (i := 8) rfl
    have c9 := HKX.out.cell (i := 9) rfl
    have c10 := HKX.out.cell (i := 10) rfl
    have c11 := HKX.out.cell (i := 11) rfl
    cases fb with
    | false =>
      have HPN := Lib.hid (such_no hps hfb)
      clear hps hfb hr2 hrl
      go_wp2_with fail
      refine CF.out.mono ?_
      rintro e w2 ⟨rfl, b2⟩
      have HB22 := Lib.hid (below_on HB2.out b2); have HKR2 := Lib.hid (HKR.out.later b2)
      have hsx2 : r0 + 2 ≤ w2.heap.size := by have := b2.size; omega
      clear b2 CF c0 c1 c2 c3 c4 c5 c6 c7 c8 c9 c10 c11
      have bz := below_new (Below.refl w2.heap.size w2) (.cells #[.int .i64 0, .int .i64 0, .int .i64 0, .int .i64 0, .int .i64 0, .slice none 0 0, .slice none 0 0, .slice none 0 0, .int .i64 0, .int .i64 0, .int .i64 0, .slice none 0 0] 74)
      have krz := HKR2.out.later bz
      have kz := Blk.new w2 74 #[.int .i64 0, .int .i64 0, .int .i64 0, .int .i64 0, .int .i64 0, .slice none 0 0, .slice none 0 0, .slice none 0 0, .int .i64 0, .int .i64 0, .int .i64 0, .slice none 0 0]
      obtain ⟨q0, hq0⟩ : ∃ q, w2.heap.size = q := ⟨_, rfl⟩
      rw [hq0] at kz
      have hq2 : r0 ≠ q0 := by have := hsx2; omega
      obtain ⟨W9, hW9⟩ : ∃ W9, (w2.alloc (.cells #[.int .i64 0, .int .i64 0, .int .i64 0, .int .i64 0, .int .i64 0, .slice none 0 0, .slice none 0 0, .slice none 0 0, .int .i64 0, .int .i64 0, .int .i64 0, .slice none 0 0] 74)) = W9 := ⟨_, rfl⟩
      have hb9 := below_on HB22.out bz
      rw [hW9] at kz krz hb9
      have hq1 : w2.heap.size = q0 := hq0
      have HW9 := Lib.hid hW9; have HQ1 := Lib.hid hq1
      clear hW9 hq1 hq0 bz
      have V1 := Lib.hid (krz.put12 (.int .i64 0) (.int .i64 0) (.int .i64 0) (.int .i64 0) (.int .i64 0) (.slice none 0 0) (.slice none 0 0) (.slice none 0 0) (.int .i64 0) (.int .i64 0) (.int .i64 0) (.slice none 0 0))
      have BZ := Lib.hid (((((((((((((hb9.setCell (p := ⟨r0, 0, none⟩) hrw _).setCell (p := ⟨r0, 1, none⟩) hrw _).setCell (p := ⟨r0, 2, none⟩) hrw _).setCell (p := ⟨r0, 3, none⟩) hrw _).setCell (p := ⟨r0, 4, none⟩) hrw _).setCell (p := ⟨r0, 5, none⟩) hrw _).setCell (p := ⟨r0, 6, none⟩) hrw _).setCell (p := ⟨r0, 7, none⟩) hrw _).setCell (p := ⟨r0, 8, none⟩) hrw _).setCell (p := ⟨r0, 9, none⟩) hrw _).setCell (p := ⟨r0, 10, none⟩) hrw _).setCell (p := ⟨r0, 11, none⟩) hrw _) : Below w.heap.size w ((((((((((((W9.setCell ⟨r0, 0, none⟩ (.int .i64 0)).setCell ⟨r0, 1, none⟩ (.int .i64 0)).setCell ⟨r0, 2, none⟩ (.int .i64 0)).setCell ⟨r0, 3, none⟩ (.int .i64 0)).setCell ⟨r0, 4, none⟩ (.int .i64 0)).setCell ⟨r0, 5, none⟩ (.slice none 0 0)).setCell ⟨r0, 6, none⟩ (.slice none 0 0)).setCell ⟨r0, 7, none⟩ (.slice none 0 0)).setCell ⟨r0, 8, none⟩ (.int .i64 0)).setCell ⟨r0, 9, none⟩ (.int .i64 0)).setCell ⟨r0, 10, none⟩ (.int .i64 0)).setCell ⟨r0, 11, none⟩ (.slice none 0 0)))
      go_upto_region 5 with (fail)
      rw [HW9.out]
      try rw [HQ1.out]
      have t0 := krz.free 0; have y0 := krz.cell (i := 0) rfl; have x0 := kz.cell (i := 0) rfl
      have t1 := krz.free 1; have y1 := krz.cell (i := 1) rfl; have x1 := kz.cell (i := 1) rfl
      have t2 := krz.free 2; have y2 := krz.cell (i := 2) rfl; have x2 := kz.cell (i := 2) rfl
      have t3 := krz.free 3; have y3 := krz.cell (i := 3) rfl; have x3 := kz.cell (i := 3) rfl
      have t4 := krz.free 4; have y4 := krz.cell (i := 4) rfl; have x4 := kz.cell (i := 4) rfl
      have t5 := krz.free 5; have y5 := krz.cell (i := 5) rfl; have x5 := kz.cell (i := 5) rfl
      have t6 := krz.free 6; have y6 := krz.cell (i := 6) rfl; have x6 := kz.cell (i := 6) rfl
      have t7 := krz.free 7; have y7 := krz.cell (i := 7) rfl; have x7 := kz.cell (i := 7) rfl
      have t8 := krz.free 8; have y8 := krz.cell (i := 8) rfl; have x8 := kz.cell (i := 8) rfl
      have t9 := krz.free 9; have y9 := krz.cell (i := 9) rfl; have x9 := kz.cell (i := 9) rfl
      have t10 := krz.free 10; have y10 := krz.cell (i := 10) rfl; have x10 := kz.cell (i := 10) rfl
      have t11 := krz.free 11; have y11 := krz.cell (i := 11) rfl; have x11 := kz.cell (i := 11) rfl
      clear krz kz hb9 z1
      go_wp2
      exact bodyPost_ret (results_cell_tmp2 (p := 6) (t1 := 7) (t2 := 8) (ty := 74) rfl _ _ r0 74 #[.int .i64 0, .int .i64 0, .int .i64 0, .int .i64 0, .int .i64 0, .slice none 0 0, .slice none 0 0, .slice none 0 0, .int .i64 0, .int .i64 0, .int .i64 0, .slice none 0 0] _ rfl V1.out Try.underlying74 rfl infoMs12) rfl
        ⟨none, none, none, none, 0, 0, 0, 0, zeroMs, _, _, rfl, MsSm.zero, MsOwn.zero _ _, BZ.out, .inr ⟨HPN.out, rfl, rfl, rfl⟩⟩
    | true =>
      have HPN := Lib.hid (such_yes hps hfb); have HRL := Lib.hid hrl
      clear hps hfb hr2 hrl
      go_wp2_with fail
      refine CF.out.mono ?_
      rintro e w2 ⟨rfl, b2⟩
      have HB22 := Lib.hid (below_on HB2.out b2); have HKR2 := Lib.hid (HKR.out.later b2); have HKX2 := Lib.hid (HKX.out.later b2); have HKG2 := Lib.hid (HKG.out.later b2); have HO22 := Lib.hid (HO2.out.later b2)
      clear b2 CF c0 c1 c2 c3 c4 c5 c6 c7 c8 c9 c10 c11 z1
      have hsub1 : (0 : Int) ≤ (l.length : Int) - (rr.length : Int) := by rw [HRL.out]; omega
      have hsub2 : (l.length : Int) - (rr.length : Int) ≤ 9223372036854775807 := by omega
      go_upto_region 6 with (fail)
      have krb := HKR2.out.drew; have kxb := HKX2.out.drew; have kgb := HKG2.out.drew; have hbb := HB22.out.drew
      have hob := HO22.out.later (Below.refl w2.heap.size w2).drew
      obtain ⟨BS, hBS⟩ : ∃ BS, w2.drew = BS := ⟨_, rfl⟩
      rw [hBS] at krb kxb kgb hbb hob
      have v1 := krb.row #[.int .i64 x.k, .int .i64 x.f, .int .i64 x.t, .int .i64 x.s, .int .i64 x.q, .slice I x.it.length ci, .slice V x.vc.length cv, .slice N x.ns.length cn, .int .i64 x.bd.o, .int .i64 x.bd.c, .int .i64 x.bd.n, .slice D x.bd.v.length d]
      have kxs := kxb.rowFar (show bx ≠ r0 by omega) #[.int .i64 x.k, .int .i64 x.f, .int .i64 x.t, .int .i64 x.s, .int .i64 x.q, .slice I x.it.length ci, .slice V x.vc.length cv, .slice N x.ns.length cn, .int .i64 x.bd.o, .int .i64 x.bd.c, .int .i64 x.bd.n, .slice D x.bd.v.length d]
      have kgs := kgb.rowFar (show g ≠ r0 from fun e => hrg e.symm) #[.int .i64 x.k, .int .i64 x.f, .int .i64 x.t, .int .i64 x.s, .int .i64 x.q, .slice I x.it.length ci, .slice V x.vc.length cv, .slice N x.ns.length cn, .int .i64 x.bd.o, .int .i64 x.bd.c, .int .i64 x.bd.n, .slice D x.bd.v.length d]
      have mo := MsOwn.down (hob.only (Only.row BS r0 #[.int .i64 x.k, .int .i64 x.f, .int .i64 x.t, .int .i64 x.s, .int .i64 x.q, .slice I x.it.length ci, .slice V x.vc.length cv, .slice N x.ns.length cn, .int .i64 x.bd.o, .int .i64 x.bd.c, .int .i64 x.bd.n, .slice D x.bd.v.length d]) (show r0 < W.heap.size by omega)) hwW
      have bs : Below w.heap.size w (BS.setRow r0 #[.int .i64 x.k, .int .i64 x.f, .int .i64 x.t, .int .i64 x.s, .int .i64 x.q, .slice I x.it.length ci, .slice V x.vc.length cv, .slice N x.ns.length cn, .int .i64 x.bd.o, .int .i64 x.bd.c, .int .i64 x.bd.n, .slice D x.bd.v.length d]) := hbb.trans ((Only.row BS r0 #[.int .i64 x.k, .int .i64 x.f, .int .i64 x.t, .int .i64 x.s, .int .i64 x.q, .slice I x.it.length ci, .slice V x.vc.length cv, .slice N x.ns.length cn, .int .i64 x.bd.o, .int .i64 x.bd.c, .int .i64 x.bd.n, .slice D x.bd.v.length d]).to_below hbb.size hrw)
      obtain ⟨ST, hST⟩ : ∃ ST, (BS.setRow r0 #[.int .i64 x.k, .int .i64 x.f, .int .i64 x.t, .int .i64 x.s, .int .i64 x.q, .slice I x.it.length ci, .slice V x.vc.length cv, .slice N x.ns.length cn, .int .i64 x.bd.o, .int .i64 x.bd.c, .int .i64 x.bd.n, .slice D x.bd.v.length d]) = ST := ⟨_, rfl⟩
      have HST := Lib.hid hST
      rw [hST] at v1 kxs kgs mo bs
      have V1 := Lib.hid v1; have KXB := Lib.hid kxb; have KXS := Lib.hid kxs; have KGB := Lib.hid kgb; have KGS := Lib.hid kgs; have KRB := Lib.hid krb; have MO := Lib.hid mo; have BSS := Lib.hid bs; have HBS := Lib.hid hBS
      clear v1 kxb kxs kgb kgs krb mo bs hST hbb hob hBS
      refine wp_region_gen 10 (by kernel_rfl) (by kernel_rfl) (fun v => { tmps := #[.slice A l.length c, .func (.func 83) #[] #[], .func (.func 40) #[] #[], undef, undef, undef, .pointer (some ⟨r0, 0, none⟩), .int .i64 0, .int .i64 0, .pointer (some ⟨g, 0, none⟩), .pointer (some ⟨bx, 0, none⟩), undef, .slice A l.length c, .agg #[.slice A l.length c, .bool false], .pointer (some ⟨g, 0, none⟩), .func (.func 83) #[] #[], .pointer (some ⟨g, 0, none⟩), .agg #[.int .i64 x.k, .int .i64 x.f, .int .i64 x.t, .int .i64 x.s, .int .i64 x.q, .slice I x.it.length ci, .slice V x.vc.length cv, .slice N x.ns.length cn, .int .i64 x.bd.o, .int .i64 x.bd.c, .int .i64 x.bd.n, .slice D x.bd.v.length d], .pointer (some ⟨g, 0, none⟩), .pointer (some ⟨g, 0, none⟩), .pointer (some ⟨g, 1, none⟩), .bool false, .bool false, .func (.func 40) #[] #[], .agg #[.int .i64 x.k, .int .i64 x.f, .int .i64 x.t, .int .i64 x.s, .int .i64 x.q, .slice I x.it.length ci, .slice V x.vc.length cv, .slice N x.ns.length cn, .int .i64 x.bd.o, .int .i64 x.bd.c, .int .i64 x.bd.n, .slice D x.bd.v.length d], .bool true, .bool false, .bool false, undef, v 0, v 1, v 2, v 3, v 4, v 5, v 6, v 7, v 8], defers := [] }) (fun _ => undef)
        (BgI BS ST (fun (i : Nat) (z : Value) => match i with | 0 => z = .agg #[.int .i64 x.k, .int .i64 x.f, .int .i64 x.t, .int .i64 x.s, .int .i64 x.q, .slice I x.it.length ci, .slice V x.vc.length cv, .slice N x.ns.length cn, .int .i64 x.bd.o, .int .i64 x.bd.c, .int .i64 x.bd.n, .slice D x.bd.v.length d] | 1 => z = .slice A l.length c | 2 => z = .int .i64 (l.length : Int) | 3 => z = .pointer (some ⟨g, 0, none⟩) | 4 => z = .pointer (some ⟨g, 0, none⟩) | 5 => z = .pointer (some ⟨g, 0, none⟩) | 6 => z = .slice A2 rr.length c2 | 7 => z = .int .i64 (rr.length : Int) | 8 => z = .int .i64 ((l.length : Int) - (rr.length : Int)) | _ => True)) ?start ?step ?done
      case start => exact fun L hL => ⟨by rw [hL 9 (by omega)]; exact HBS.out, fun i hi h => by rw [hL i (by omega)] at h; cases h⟩
      case step =>
        intro i hi L v w' hI hun hd
        have hw := hI.w; have hC := hI.c
        have hkx : Blk w' bx 74 #[.int .i64 x.k, .int .i64 x.f, .int .i64 x.t, .int .i64 x.s, .int .i64 x.q, .slice I x.it.length ci, .slice V x.vc.length cv, .slice N x.ns.length cn, .int .i64 x.bd.o, .int .i64 x.bd.c, .int .i64 x.bd.n, .slice D x.bd.v.length d] := by rw [hw]; cases L 9 <;> first | exact KXB.out | exact KXS.out
        have hkg : Blk w' g 126 #[.slice A2 rr.length c2, .bool false] := by rw [hw]; cases L 9 <;> first | exact KGB.out | exact KGS.out
        match i, hi with
        | 0, _ =>
          have ST9 := Lib.hid (hI.still (i := 0) (z := .agg #[.int .i64 x.k, .int .i64 x.f, .int .i64 x.t, .int .i64 x.s, .int .i64 x.q, .slice I x.it.length ci, .slice V x.vc.length cv, .slice N x.ns.length cn, .int .i64 x.bd.o, .int .i64 x.bd.c, .int .i64 x.bd.n, .slice D x.bd.v.length d]) rfl (by decide))
          have c0 := hkx.cell (i := 0) rfl
          have c1 := hkx.cell (i := 1) rfl
          have c2 := hkx.cell (i := 2) rfl
          have c3 := hkx.cell (i := 3) rfl
          have c4 := hkx.cell (i := 4) rfl
          have c5 := hkx.cell (i := 5) rfl
          have c6 := hkx.cell (i := 6) rfl
          have c7 := hkx.cell (i := 7) rfl
          have c8 := hkx.cell (i := 8) rfl
          have c9 := hkx.cell (i := 9) rfl
          have c10 := hkx.cell (i := 10) rfl
          have c11 := hkx.cell (i := 11) rfl
          refine wpOp_one rfl ?_
          clear hd hC hkx hkg hw hI
          go_wp2
          first | exact ⟨_, (by simp [upd]; done), ST9.out⟩ | exact ⟨(by simp [upd]; done), ST9.out⟩
        | 1, _ =>
          have ST9 := Lib.hid (hI.still (i := 1) (z := .slice A l.length c) rfl (by decide))
          refine wpOp_one rfl ?_
          clear hd hC hkx hkg hw hI
          go_wp2
          first | exact ⟨_, (by simp [upd]; done), ST9.out⟩ | exact ⟨(by simp [upd]; done), ST9.out⟩
        | 2, _ =>
          have h1 : v 1 = _ := hC 1 (by omega) (hd 1 (List.elem_iff.1 (by kernel_rfl)))
          have ST9 := Lib.hid (hI.still (i := 2) (z := .int .i64 (l.length : Int)) rfl (by decide))
          refine wpOp_one rfl ?_
          clear hd hC hkx hkg hw hI
          rw [h1]
          go_wp2
          first | exact ⟨_, (by simp [upd, h1]; done), ST9.out⟩ | exact ⟨(by simp [upd, h1]; done), ST9.out⟩
        | 3, _ =>
          have ST9 := Lib.hid (hI.still (i := 3) (z := .pointer (some ⟨g, 0, none⟩)) rfl (by decide))
          refine wpOp_one rfl ?_
          clear hd hC hkx hkg hw hI
          go_wp2
          first | exact ⟨_, (by simp [upd]; done), ST9.out⟩ | exact ⟨(by simp [upd]; done), ST9.out⟩
        | 4, _ =>
          have h3 : v 3 = _ := hC 3 (by omega) (hd 3 (List.elem_iff.1 (by kernel_rfl)))
          have ST9 := Lib.hid (hI.still (i := 4) (z := .pointer (some ⟨g, 0, none⟩)) rfl (by decide))
          refine wpOp_one rfl ?_
          clear hd hC hkx hkg hw hI
          rw [h3]
          go_wp2
          first | exact ⟨_, (by simp [upd, h3]; done), ST9.out⟩ | exact ⟨(by simp [upd, h3]; done), ST9.out⟩
        | 5, _ =>
          have h4 : v 4 = _ := hC 4 (by omega) (hd 4 (List.elem_iff.1 (by kernel_rfl)))
          have ST9 := Lib.hid (hI.still (i := 5) (z := .pointer (some ⟨g, 0, none⟩)) rfl (by decide))
          refine wpOp_one rfl ?_
          clear hd hC hkx hkg hw hI
          rw [h4]
          go_wp2
          first | exact ⟨_, (by simp [upd, h4]; done), ST9.out⟩ | exact ⟨(by simp [upd, h4]; done), ST9.out⟩
        | 6, _ =>
          have h5 : v 5 = _ := hC 5 (by omega) (hd 5 (List.elem_iff.1 (by kernel_rfl)))
          have ST9 := Lib.hid (hI.still (i := 6) (z := .slice A2 rr.length c2) rfl (by decide))
          have c0 := hkg.cell (i := 0) rfl
          refine wpOp_one rfl ?_
          clear hd hC hkx hkg hw hI
          rw [h5]
          go_wp2
          first | exact ⟨_, (by simp [upd, h5]; done), ST9.out⟩ | exact ⟨(by simp [upd, h5]; done), ST9.out⟩
        | 7, _ =>
          have h6 : v 6 = _ := hC 6 (by omega) (hd 6 (List.elem_iff.1 (by kernel_rfl)))
          have ST9 := Lib.hid (hI.still (i := 7) (z := .int .i64 (rr.length : Int)) rfl (by decide))
          refine wpOp_one rfl ?_
          clear hd hC hkx hkg hw hI
          rw [h6]
          go_wp2
          first | exact ⟨_, (by simp [upd, h6]; done), ST9.out⟩ | exact ⟨(by simp [upd, h6]; done), ST9.out⟩
        | 8, _ =>
          have h2 : v 2 = _ := hC 2 (by omega) (hd 2 (List.elem_iff.1 (by kernel_rfl)))
          have h7 : v 7 = _ := hC 7 (by omega) (hd 7 (List.elem_iff.1 (by kernel_rfl)))
          have ST9 := Lib.hid (hI.still (i := 8) (z := .int .i64 ((l.length : Int) - (rr.length : Int))) rfl (by decide))
          refine wpOp_one rfl ?_
          clear hd hC hkx hkg hw hI
          rw [h2, h7]
          go_wp2
          first | exact ⟨_, (by simp [upd, h2, h7]; done), ST9.out⟩ | exact ⟨(by simp [upd, h2, h7]; done), ST9.out⟩
        | 9, _ =>
          have h0 : v 0 = _ := hC 0 (by omega) (hd 0 (List.elem_iff.1 (by kernel_rfl)))
          rw [hun] at hw
          have hw : w' = BS := hw
          subst hw
          have ST9 := Lib.hid (hI.store undef)
          refine wpOp_oneK rfl (fun KK hKK => ?_)
          have HKK := Lib.hid hKK
          clear hKK hd hC hkx hkg hI
          rw [h0]
          simp only [List.getElem_toArray, List.getElem_cons_succ, List.getElem_cons_zero]
          refine wpList_store_row rfl 74 _ _ rfl r0 #[.int .i64 x.k, .int .i64 x.f, .int .i64 x.t, .int .i64 x.s, .int .i64 x.q, .slice I x.it.length ci, .slice V x.vc.length cv, .slice N x.ns.length cn, .int .i64 x.bd.o, .int .i64 x.bd.c, .int .i64 x.bd.n, .slice D x.bd.v.length d] rfl rfl 74 #[.int .i64 0, .int .i64 0, .int .i64 0, .int .i64 0, .int .i64 0, .slice none 0 0, .slice none 0 0, .slice none 0 0, .int .i64 0, .int .i64 0, .int .i64 0, .slice none 0 0] KRB.out infoMs12 rfl (by simp [Value.oneCell']) ?_
          rw [HST.out]
          exact HKK.out _ _ ⟨undef, (by simp [upd, h0, Act.put]; done), ST9.out⟩
        | k + 10, hk => exact absurd hk (by omega)
      case done =>
        intro L v w5 hI hall
        have hw := hI.w; have hC := hI.c
        rw [hall 9 (by omega)] at hw
        have hw : w5 = ST := hw
        subst hw
        have h8 : v 8 = _ := hC 8 (by omega) (hall 8 (by omega))
        clear hall hC hI
        simp only [List.drop_succ_cons, List.drop_zero]
        rw [h8]
        go_wp2
        have hk : (l.length : Int) - (rr.length : Int) = (a : Int) := by rw [HRL.out]; omega
        exact bodyPost_ret (results_cell_tmp2 (p := 6) (t1 := 7) (t2 := 8) (ty := 74) rfl _ _ r0 74 #[.int .i64 x.k, .int .i64 x.f, .int .i64 x.t, .int .i64 x.s, .int .i64 x.q, .slice I x.it.length ci, .slice V x.vc.length cv, .slice N x.ns.length cn, .int .i64 x.bd.o, .int .i64 x.bd.c, .int .i64 x.bd.n, .slice D x.bd.v.length d] _ rfl V1.out Try.underlying74 rfl infoMs12) rfl
          ⟨I, V, N, D, ci, cv, cn, d, x, _, _, rfl, HSM.out, MO.out, BSS.out, .inl ⟨a, HPN.out, hk, rfl⟩⟩

/-- What begun answers: a thing that is as it must be, with how many bytes it has, or the error. -/
def BegN (p : Nat → Option (Note × Nat)) (w : World) (e : Ending) (w' : World) : Prop :=
  ∃ S E B V cs ce cb cv x k er, e = .returned (.tuple #[.agg (noteCells S E B V cs ce cb cv x), .int .i64 k, .int .i64 er]) ∧ NoteSm x ∧ NoteOwn w' w.heap.size S E B V cs ce cb cv x ∧ Below w.heap.size w w' ∧
    ((∃ a : Nat, p 0 = some (x, a) ∧ k = (a : Int) ∧ er = 0) ∨ (p 0 = none ∧ x = zeroN ∧ k = 0 ∧ er = 4))

set_option maxRecDepth 100000 in
set_option maxHeartbeats 12800000 in
theorem dbeg_nt (A : Option Addr) (c : Nat) (l : List Int) (w : World) (hl : l.length ≤ 1099511627776) (h : OneB w A c l) :
    Calls Try.prog 67 #[.slice A l.length c, .func (.func 68) #[] #[], .func (.func 65) #[] #[]] w (BegN (fun a => Wi.such Nt.fmd (Wi.pnotr l a)) w) := by
  obtain ⟨r0, hr0⟩ : ∃ r0, w.heap.size = r0 := ⟨_, rfl⟩
  obtain ⟨W, hW⟩ : ∃ W, (w.alloc (.cells #[.slice none 0 0, .slice none 0 0, .slice none 0 0, .slice none 0 0] 51)).alloc (.cells #[.slice A l.length c, .bool false] 126) = W := ⟨_, rfl⟩
  have hb0 : Below w.heap.size w W := by rw [← hW]; exact below_new (below_new (Below.refl _ _) _) _
  have hKR : Blk W r0 51 #[.slice none 0 0, .slice none 0 0, .slice none 0 0, .slice none 0 0] := by rw [← hW, ← hr0]; exact (Blk.new w _ _).alloc _
  obtain ⟨g, hg⟩ : ∃ g, r0 + 1 = g := ⟨_, rfl⟩
  have hd0 : DRd W g l (some 0) := by
    have := DRd.start (h.later (below_new (Below.refl _ _) (.cells #[.slice none 0 0, .slice none 0 0, .slice none 0 0, .slice none 0 0] 51)))
    rw [hW] at this
    rw [← hg, ← hr0]
    simpa using this
  have hWs : W.heap.size = r0 + 2 := by rw [← hW, ← hr0]; simp
  have CK := Lib.hid (drnote_any g l (some 0) W hd0)
  have HR := Lib.hid hr0; have HG := Lib.hid hg; have HW := Lib.hid hW; have HB0 := Lib.hid hb0; have KR := Lib.hid hKR
  have hrw : w.heap.size ≤ r0 := by omega
  have hgw : w.heap.size ≤ g := by omega
  have hrg : r0 ≠ g := by omega
  have hW2 : r0 + 2 ≤ W.heap.size := by omega
  have hwW : w.heap.size ≤ W.heap.size := by omega
  have hll := h.len
  clear hW hd0 hb0 hg hr0 hKR h hWs
  go_enter Try.func67, Try.ntmps67
  go_wp2_with fail
  rw [HR.out, HG.out, HW.out]
  refine CK.out.mono ?_
  rintro e w1 ⟨S, E, B, V, cs, ce, cb, cv, x, rfl, hsm, hown, hd, ho, hgot⟩
  skip
  skip
  unfold noteCells
  have hs1 := ho.size
  have hb1 : Below w.heap.size w w1 := HB0.out.trans (ho.to_below hwW hgw)
  have kr1 := ho.blk KR.out hrg
  have hb10 := below_new (Below.refl w1.heap.size w1) (.cells #[.slice S x.s.length cs, .slice E x.e.length ce, .slice B x.b.length cb, .slice V x.ws.length cv] 51)
  have kx := Blk.new w1 51 #[.slice S x.s.length cs, .slice E x.e.length ce, .slice B x.b.length cb, .slice V x.ws.length cv]
  have kr2 := kr1.later hb10
  have CF := Lib.hid (dnformed_any S E B V cs ce cb cv x _ ((hown.at).later hb10))
  unfold noteCells at CF
  obtain ⟨A2, c2, rr, b2, hB, hO2, -, hL⟩ := hd
  have hB2 := hB.later hb10
  have hb2 := below_on hb1 hb10
  have ho2 := hown.later hb10
  have hlen2 := hO2.len
  obtain ⟨W1, hW1⟩ : ∃ W1, w1.alloc (.cells #[.slice S x.s.length cs, .slice E x.e.length ce, .slice B x.b.length cb, .slice V x.ws.length cv] 51) = W1 := ⟨_, rfl⟩
  obtain ⟨bx, hbx⟩ : ∃ bx, w1.heap.size = bx := ⟨_, rfl⟩
  rw [hW1] at hB2 hb2 ho2 kx kr2 CF
  rw [hbx] at kx
  have hsx : r0 + 2 ≤ W1.heap.size := by rw [← hW1]; simp; omega
  have hsw2 : r0 + 2 ≤ bx := by omega
  obtain ⟨s1, hs1'⟩ : ∃ s1, Wi.nxt (Wi.pnotr l) (some 0) = s1 := ⟨_, rfl⟩
  rw [hs1'] at hL
  have HW1 := Lib.hid hW1; have HBX := Lib.hid hbx; have HB2 := Lib.hid hb2; have HO2 := Lib.hid ho2; have HKX := Lib.hid kx; have HKR := Lib.hid kr2; have HKG := Lib.hid hB2; have HSM := Lib.hid hsm; have GT := Lib.hid hgot; have HS1 := Lib.hid hs1'
  clear hW1 hbx hb1 hb2 ho2 kx kr1 kr2 hB hB2 hO2 hsm hgot hs1' hown ho hb10 HB0 KR CK
  go_upto_region 3 with (fail)
  rw [HW1.out]
  rw [HBX.out]
  have z1 := HKG.out.cell (i := 1) rfl
  cases s1 with
  | none =>
    obtain ⟨-, rfl⟩ := hL
    have HPN := Lib.hid (such_none (f := Nt.fmd) (p_none HS1.out))
    have bz := below_new (Below.refl W1.heap.size W1) (.cells #[.slice none 0 0, .slice none 0 0, .slice none 0 0, .slice none 0 0] 51)
    have krz := HKR.out.later bz
    have kz := Blk.new W1 51 #[.slice none 0 0, .slice none 0 0, .slice none 0 0, .slice none 0 0]
    obtain ⟨q0, hq0⟩ : ∃ q, W1.heap.size = q := ⟨_, rfl⟩
    rw [hq0] at kz
    have hq2 : r0 ≠ q0 := by have := hsx; omega
    obtain ⟨W9, hW9⟩ : ∃ W9, (W1.alloc (.cells #[.slice none 0 0, .slice none 0 0, .slice none 0 0, .slice none 0 0] 51)) = W9 := ⟨_, rfl⟩
    have hb9 := below_on HB2.out bz
    rw [hW9] at kz krz hb9
    have hq1 : W1.heap.size = q0 := hq0
    have HW9 := Lib.hid hW9; have HQ1 := Lib.hid hq1
    clear hW9 hq1 hq0 bz
    have V1 := Lib.hid (krz.put4 (.slice none 0 0) (.slice none 0 0) (.slice none 0 0) (.slice none 0 0))
    have BZ := Lib.hid (((((hb9.setCell (p := ⟨r0, 0, none⟩) hrw _).setCell (p := ⟨r0, 1, none⟩) hrw _).setCell (p := ⟨r0, 2, none⟩) hrw _).setCell (p := ⟨r0, 3, none⟩) hrw _) : Below w.heap.size w ((((W9.setCell ⟨r0, 0, none⟩ (.slice none 0 0)).setCell ⟨r0, 1, none⟩ (.slice none 0 0)).setCell ⟨r0, 2, none⟩ (.slice none 0 0)).setCell ⟨r0, 3, none⟩ (.slice none 0 0)))
    go_upto_region 5 with (fail)
    rw [HW9.out]
    try rw [HQ1.out]
    have t0 := krz.free 0; have y0 := krz.cell (i := 0) rfl; have x0 := kz.cell (i := 0) rfl
    have t1 := krz.free 1; have y1 := krz.cell (i := 1) rfl; have x1 := kz.cell (i := 1) rfl
    have t2 := krz.free 2; have y2 := krz.cell (i := 2) rfl; have x2 := kz.cell (i := 2) rfl
    have t3 := krz.free 3; have y3 := krz.cell (i := 3) rfl; have x3 := kz.cell (i := 3) rfl
    clear krz kz hb9 z1
    go_wp2
    exact bodyPost_ret (results_cell_tmp2 (p := 6) (t1 := 7) (t2 := 8) (ty := 51) rfl _ _ r0 51 #[.slice none 0 0, .slice none 0 0, .slice none 0 0, .slice none 0 0] _ rfl V1.out Try.underlying51 rfl infoNt4) rfl
      ⟨none, none, none, none, 0, 0, 0, 0, zeroN, _, _, rfl, NoteSm.zero, NoteOwn.zero _ _, BZ.out, .inr ⟨HPN.out, rfl, rfl, rfl⟩⟩
  | some a =>
    obtain ⟨ha, hr2, rfl⟩ := hL
    have hps := p_of_got HS1.out GT.out
    obtain ⟨fb, hfb⟩ : ∃ fb, Nt.fmd x = fb := ⟨_, rfl⟩
    rw [hfb] at CF
    have hrl : rr.length = l.length - a := by rw [hr2, List.length_drop]
    have c0 := HKX.out.cell (i := 0) rfl
    have c1 := HKX.out.cell (i := 1) rfl
    have c2 := HKX.out.cell (i := 2) rfl
    have c3 := HKX.out.cell (i := 3) rfl
    cases fb with
    | false =>
      have HPN := Lib.hid (such_no hps hfb)
      clear hps hfb hr2 hrl
      go_wp2_with fail
      refine CF.out.mono ?_
      rintro e w2 ⟨rfl, b2⟩
      have HB22 := Lib.hid (below_on HB2.out b2); have HKR2 := Lib.hid (HKR.out.later b2)
      have hsx2 : r0 + 2 ≤ w2.heap.size := by have := b2.size; omega
      clear b2 CF c0 c1 c2 c3
      have bz := below_new (Below.refl w2.heap.size w2) (.cells #[.slice none 0 0, .slice none 0 0, .slice none 0 0, .slice none 0 0] 51)
      have krz := HKR2.out.later bz
      have kz := Blk.new w2 51 #[.slice none 0 0, .slice none 0 0, .slice none 0 0, .slice none 0 0]
      obtain ⟨q0, hq0⟩ : ∃ q, w2.heap.size = q := ⟨_, rfl⟩
      rw [hq0] at kz
      have hq2 : r0 ≠ q0 := by have := hsx2; omega
      obtain ⟨W9, hW9⟩ : ∃ W9, (w2.alloc (.cells #[.slice none 0 0, .slice none 0 0, .slice none 0 0, .slice none 0 0] 51)) = W9 := ⟨_, rfl⟩
      have hb9 := below_on HB22.out bz
      rw [hW9] at kz krz hb9
      have hq1 : w2.heap.size = q0 := hq0
      have HW9 := Lib.hid hW9; have HQ1 := Lib.hid hq1
      clear hW9 hq1 hq0 bz
      have V1 := Lib.hid (krz.put4 (.slice none 0 0) (.slice none 0 0) (.slice none 0 0) (.slice none 0 0))
      have BZ := Lib.hid (((((hb9.setCell (p := ⟨r0, 0, none⟩) hrw _).setCell (p := ⟨r0, 1, none⟩) hrw _).setCell (p := ⟨r0, 2, none⟩) hrw _).setCell (p := ⟨r0, 3, none⟩) hrw _) : Below w.heap.size w ((((W9.setCell ⟨r0, 0, none⟩ (.slice none 0 0)).setCell ⟨r0, 1, none⟩ (.slice none 0 0)).setCell ⟨r0, 2, none⟩ (.slice none 0 0)).setCell ⟨r0, 3, none⟩ (.slice none 0 0)))
      go_upto_region 5 with (fail)
      rw [HW9.out]
      try rw [HQ1.out]
      have t0 := krz.free 0; have y0 := krz.cell (i := 0) rfl; have x0 := kz.cell (i := 0) rfl
      have t1 := krz.free 1; have y1 := krz.cell (i := 1) rfl; have x1 := kz.cell (i := 1) rfl
      have t2 := krz.free 2; have y2 := krz.cell (i := 2) rfl; have x2 := kz.cell (i := 2) rfl
      have t3 := krz.free 3; have y3 := krz.cell (i := 3) rfl; have x3 := kz.cell (i := 3) rfl
      clear krz kz hb9 z1
      go_wp2
      exact bodyPost_ret (results_cell_tmp2 (p := 6) (t1 := 7) (t2 := 8) (ty := 51) rfl _ _ r0 51 #[.slice none 0 0, .slice none 0 0, .slice none 0 0, .slice none 0 0] _ rfl V1.out Try.underlying51 rfl infoNt4) rfl
        ⟨none, none, none, none, 0, 0, 0, 0, zeroN, _, _, rfl, NoteSm.zero, NoteOwn.zero _ _, BZ.out, .inr ⟨HPN.out, rfl, rfl, rfl⟩⟩
    | true =>
      have HPN := Lib.hid (such_yes hps hfb); have HRL := Lib.hid hrl
      clear hps hfb hr2 hrl
      go_wp2_with fail
      refine CF.out.mono ?_
      rintro e w2 ⟨rfl, b2⟩
      have HB22 := Lib.hid (below_on HB2.out b2); have HKR2 := Lib.hid (HKR.out.later b2); have HKX2 := Lib.hid (HKX.out.later b2); have HKG2 := Lib.hid (HKG.out.later b2); have HO22 := Lib.hid (HO2.out.later b2)
      clear b2 CF c0 c1 c2 c3 z1
      have hsub1 : (0 : Int) ≤ (l.length : Int) - (rr.length : Int) := by rw [HRL.out]; omega
      have hsub2 : (l.length : Int) - (rr.length : Int) ≤ 9223372036854775807 := by omega
      go_upto_region 6 with (fail)
      have krb := HKR2.out.drew; have kxb := HKX2.out.drew; have kgb := HKG2.out.drew; have hbb := HB22.out.drew
      have hob := HO22.out.later (Below.refl w2.heap.size w2).drew
      obtain ⟨BS, hBS⟩ : ∃ BS, w2.drew = BS := ⟨_, rfl⟩
      rw [hBS] at krb kxb kgb hbb hob
      have v1 := krb.row #[.slice S x.s.length cs, .slice E x.e.length ce, .slice B x.b.length cb, .slice V x.ws.length cv]
      have kxs := kxb.rowFar (show bx ≠ r0 by omega) #[.slice S x.s.length cs, .slice E x.e.length ce, .slice B x.b.length cb, .slice V x.ws.length cv]
      have kgs := kgb.rowFar (show g ≠ r0 from fun e => hrg e.symm) #[.slice S x.s.length cs, .slice E x.e.length ce, .slice B x.b.length cb, .slice V x.ws.length cv]
      have mo := NoteOwn.down (hob.only (Only.row BS r0 #[.slice S x.s.length cs, .slice E x.e.length ce, .slice B x.b.length cb, .slice V x.ws.length cv]) (show r0 < W.heap.size by omega)) hwW
      have bs : Below w.heap.size w (BS.setRow r0 #[.slice S x.s.length cs, .slice E x.e.length ce, .slice B x.b.length cb, .slice V x.ws.length cv]) := hbb.trans ((Only.row BS r0 #[.slice S x.s.length cs, .slice E x.e.length ce, .slice B x.b.length cb, .slice V x.ws.length cv]).to_below hbb.size hrw)
      obtain ⟨ST, hST⟩ : ∃ ST, (BS.setRow r0 #[.slice S x.s.length cs, .slice E x.e.length ce, .slice B x.b.length cb, .slice V x.ws.length cv]) = ST := ⟨_, rfl⟩
      have HST := Lib.hid hST
      rw [hST] at v1 kxs kgs mo bs
      have V1 := Lib.hid v1; have KXB := Lib.hid kxb; have KXS := Lib.hid kxs; have KGB := Lib.hid kgb; have KGS := Lib.hid kgs; have KRB := Lib.hid krb; have MO := Lib.hid mo; have BSS := Lib.hid bs; have HBS := Lib.hid hBS
      clear v1 kxb kxs kgb kgs krb mo bs hST hbb hob hBS
      refine wp_region_gen 10 (by kernel_rfl) (by kernel_rfl) (fun v => { tmps := #[.slice A l.length c, .func (.func 68) #[] #[], .func (.func 65) #[] #[], undef, undef, undef, .pointer (some ⟨r0, 0, none⟩), .int .i64 0, .int .i64 0, .pointer (some ⟨g, 0, none⟩), .pointer (some ⟨bx, 0, none⟩), undef, .slice A l.length c, .agg #[.slice A l.length c, .bool false], .pointer (some ⟨g, 0, none⟩), .func (.func 68) #[] #[], .pointer (some ⟨g, 0, none⟩), .agg #[.slice S x.s.length cs, .slice E x.e.length ce, .slice B x.b.length cb, .slice V x.ws.length cv], .pointer (some ⟨g, 0, none⟩), .pointer (some ⟨g, 0, none⟩), .pointer (some ⟨g, 1, none⟩), .bool false, .bool false, .func (.func 65) #[] #[], .agg #[.slice S x.s.length cs, .slice E x.e.length ce, .slice B x.b.length cb, .slice V x.ws.length cv], .bool true, .bool false, .bool false, undef, v 0, v 1, v 2, v 3, v 4, v 5, v 6, v 7, v 8], defers := [] }) (fun _ => undef)
        (BgI BS ST (fun (i : Nat) (z : Value) => match i with | 0 => z = .agg #[.slice S x.s.length cs, .slice E x.e.length ce, .slice B x.b.length cb, .slice V x.ws.length cv] | 1 => z = .slice A l.length c | 2 => z = .int .i64 (l.length : Int) | 3 => z = .pointer (some ⟨g, 0, none⟩) | 4 => z = .pointer (some ⟨g, 0, none⟩) | 5 => z = .pointer (some ⟨g, 0, none⟩) | 6 => z = .slice A2 rr.length c2 | 7 => z = .int .i64 (rr.length : Int) | 8 => z = .int .i64 ((l.length : Int) - (rr.length : Int)) | _ => True)) ?start ?step ?done
      case start => exact fun L hL => ⟨by rw [hL 9 (by omega)]; exact HBS.out, fun i hi h => by rw [hL i (by omega)] at h; cases h⟩
      case step =>
        intro i hi L v w' hI hun hd
        have hw := hI.w; have hC := hI.c
        have hkx : Blk w' bx 51 #[.slice S x.s.length cs, .slice E x.e.length ce, .slice B x.b.length cb, .slice V x.ws.length cv] := by rw [hw]; cases L 9 <;> first | exact KXB.out | exact KXS.out
        have hkg : Blk w' g 126 #[.slice A2 rr.length c2, .bool false] := by rw [hw]; cases L 9 <;> first | exact KGB.out | exact KGS.out
        match i, hi with
        | 0, _ =>
          have ST9 := Lib.hid (hI.still (i := 0) (z := .agg #[.slice S x.s.length cs, .slice E x.e.length ce, .slice B x.b.length cb, .slice V x.ws.length cv]) rfl (by decide))
          have c0 := hkx.cell (i := 0) rfl
          have c1 := hkx.cell (i := 1) rfl
          have c2 := hkx.cell (i := 2) rfl
          have c3 := hkx.cell (i := 3) rfl
          refine wpOp_one rfl ?_
          clear hd hC hkx hkg hw hI
          go_wp2
          first | exact ⟨_, (by simp [upd]; done), ST9.out⟩ | exact ⟨(by simp [upd]; done), ST9.out⟩
        | 1, _ =>
          have ST9 := Lib.hid (hI.still (i := 1) (z := .slice A l.length c) rfl (by decide))
          refine wpOp_one rfl ?_
          clear hd hC hkx hkg hw hI
          go_wp2
          first | exact ⟨_, (by simp [upd]; done), ST9.out⟩ | exact ⟨(by simp [upd]; done), ST9.out⟩
        | 2, _ =>
          have h1 : v 1 = _ := hC 1 (by omega) (hd 1 (List.elem_iff.1 (by kernel_rfl)))
          have ST9 := Lib.hid (hI.still (i := 2) (z := .int .i64 (l.length : Int)) rfl (by decide))
          refine wpOp_one rfl ?_
          clear hd hC hkx hkg hw hI
          rw [h1]
          go_wp2
          first | exact ⟨_, (by simp [upd, h1]; done), ST9.out⟩ | exact ⟨(by simp [upd, h1]; done), ST9.out⟩
        | 3, _ =>
          have ST9 := Lib.hid (hI.still (i := 3) (z := .pointer (some ⟨g, 0, none⟩)) rfl (by decide))
          refine wpOp_one rfl ?_
          clear hd hC hkx hkg hw hI
          go_wp2
          first | exact ⟨_, (by simp [upd]; done), ST9.out⟩ | exact ⟨(by simp [upd]; done), ST9.out⟩
        | 4, _ =>
          have h3 : v 3 = _ := hC 3 (by omega) (hd 3 (List.elem_iff.1 (by kernel_rfl)))
          have ST9 := Lib.hid (hI.still (i := 4) (z := .pointer (some ⟨g, 0, none⟩)) rfl (by decide))
          refine wpOp_one rfl ?_
          clear hd hC hkx hkg hw hI
          rw [h3]
          go_wp2
          first | exact ⟨_, (by simp [upd, h3]; done), ST9.out⟩ | exact ⟨(by simp [upd, h3]; done), ST9.out⟩
        | 5, _ =>
          have h4 : v 4 = _ := hC 4 (by omega) (hd 4 (List.elem_iff.1 (by kernel_rfl)))
          have ST9 := Lib.hid (hI.still (i := 5) (z := .pointer (some ⟨g, 0, none⟩)) rfl (by decide))
          refine wpOp_one rfl ?_
          clear hd hC hkx hkg hw hI
          rw [h4]
          go_wp2
          first | exact ⟨_, (by simp [upd, h4]; done), ST9.out⟩ | exact ⟨(by simp [upd, h4]; done), ST9.out⟩
        | 6, _ =>
          have h5 : v 5 = _ := hC 5 (by omega) (hd 5 (List.elem_iff.1 (by kernel_rfl)))
          have ST9 := Lib.hid (hI.still (i := 6) (z := .slice A2 rr.length c2) rfl (by decide))
          have c0 := hkg.cell (i := 0) rfl
          refine wpOp_one rfl ?_
          clear hd hC hkx hkg hw hI
          rw [h5]
          go_wp2
          first | exact ⟨_, (by simp [upd, h5]; done), ST9.out⟩ | exact ⟨(by simp [upd, h5]; done), ST9.out⟩
        | 7, _ =>
          have h6 : v 6 = _ := hC 6 (by omega) (hd 6 (List.elem_iff.1 (by kernel_rfl)))
          have ST9 := Lib.hid (hI.still (i := 7) (z := .int .i64 (rr.length : Int)) rfl (by decide))
          refine wpOp_one rfl ?_
          clear hd hC hkx hkg hw hI
          rw [h6]
          go_wp2
          first | exact ⟨_, (by simp [upd, h6]; done), ST9.out⟩ | exact ⟨(by simp [upd, h6]; done), ST9.out⟩
        | 8, _ =>
          have h2 : v 2 = _ := hC 2 (by omega) (hd 2 (List.elem_iff.1 (by kernel_rfl)))
          have h7 : v 7 = _ := hC 7 (by omega) (hd 7 (List.elem_iff.1 (by kernel_rfl)))
          have ST9 := Lib.hid (hI.still (i := 8) (z := .int .i64 ((l.length : Int) - (rr.length : Int))) rfl (by decide))
          refine wpOp_one rfl ?_
          clear hd hC hkx hkg hw hI
          rw [h2, h7]
          go_wp2
          first | exact ⟨_, (by simp [upd, h2, h7]; done), ST9.out⟩ | exact ⟨(by simp [upd, h2, h7]; done), ST9.out⟩
        | 9, _ =>
          have h0 : v 0 = _ := hC 0 (by omega) (hd 0 (List.elem_iff.1 (by kernel_rfl)))
          rw [hun] at hw
          have hw : w' = BS := hw
          subst hw
          have ST9 := Lib.hid (hI.store undef)
          refine wpOp_oneK rfl (fun KK hKK => ?_)
          have HKK := Lib.hid hKK
          clear hKK hd hC hkx hkg hI
          rw [h0]
          simp only [List.getElem_toArray, List.getElem_cons_succ, List.getElem_cons_zero]
          refine wpList_store_row rfl 51 _ _ rfl r0 #[.slice S x.s.length cs, .slice E x.e.length ce, .slice B x.b.length cb, .slice V x.ws.length cv] rfl rfl 51 #[.slice none 0 0, .slice none 0 0, .slice none 0 0, .slice none 0 0] KRB.out infoNt4 rfl (by simp [Value.oneCell']) ?_
          rw [HST.out]
          exact HKK.out _ _ ⟨undef, (by simp [upd, h0, Act.put]; done), ST9.out⟩
        | k + 10, hk => exact absurd hk (by omega)
      case done =>
        intro L v w5 hI hall
        have hw := hI.w; have hC := hI.c
        rw [hall 9 (by omega)] at hw
        have hw : w5 = ST := hw
        subst hw
        have h8 : v 8 = _ := hC 8 (by omega) (hall 8 (by omega))
        clear hall hC hI
        simp only [List.drop_succ_cons, List.drop_zero]
        rw [h8]
        go_wp2
        have hk : (l.length : Int) - (rr.length : Int) = (a : Int) := by rw [HRL.out]; omega
        exact bodyPost_ret (results_cell_tmp2 (p := 6) (t1 := 7) (t2 := 8) (ty := 51) rfl _ _ r0 51 #[.slice S x.s.length cs, .slice E x.e.length ce, .slice B x.b.length cb, .slice V x.ws.length cv] _ rfl V1.out Try.underlying51 rfl infoNt4) rfl
          ⟨S, E, B, V, cs, ce, cb, cv, x, _, _, rfl, HSM.out, MO.out, BSS.out, .inl ⟨a, HPN.out, hk, rfl⟩⟩

/-- What begun answers: a thing that is as it must be, with how many bytes it has, or the error. -/
def BegB (p : Nat → Option (Bd × Nat)) (w : World) (e : Ending) (w' : World) : Prop :=
  ∃ D d x k er, e = .returned (.tuple #[.agg (bdCells D d x), .int .i64 k, .int .i64 er]) ∧ BdSm x ∧ BdOwn w' w.heap.size D d x ∧ Below w.heap.size w w' ∧
    ((∃ a : Nat, p 0 = some (x, a) ∧ k = (a : Int) ∧ er = 0) ∨ (p 0 = none ∧ x = zeroBd ∧ k = 0 ∧ er = 4))

set_option maxRecDepth 100000 in
set_option maxHeartbeats 12800000 in
theorem dbeg_bd (A : Option Addr) (c : Nat) (l : List Int) (w : World) (hl : l.length ≤ 1099511627776) (h : OneB w A c l) :
    Calls Try.prog 75 #[.slice A l.length c, .func (.func 76) #[] #[], .func (.func 72) #[] #[]] w (BegB (fun a => Wi.such Wi.bright (Wi.pbod l a)) w) := by
  obtain ⟨r0, hr0⟩ : ∃ r0, w.heap.size = r0 := ⟨_, rfl⟩
  obtain ⟨W, hW⟩ : ∃ W, (w.alloc (.cells #[.int .i64 0, .int .i64 0, .int .i64 0, .slice none 0 0] 63)).alloc (.cells #[.slice A l.length c, .bool false] 126) = W := ⟨_, rfl⟩
  have hb0 : Below w.heap.size w W := by rw [← hW]; exact below_new (below_new (Below.refl _ _) _) _
  have hKR : Blk W r0 63 #[.int .i64 0, .int .i64 0, .int .i64 0, .slice none 0 0] := by rw [← hW, ← hr0]; exact (Blk.new w _ _).alloc _
  obtain ⟨g, hg⟩ : ∃ g, r0 + 1 = g := ⟨_, rfl⟩
  have hd0 : DRd W g l (some 0) := by
    have := DRd.start (h.later (below_new (Below.refl _ _) (.cells #[.int .i64 0, .int .i64 0, .int .i64 0, .slice none 0 0] 63)))
    rw [hW] at this
    rw [← hg, ← hr0]
    simpa using this
  have hWs : W.heap.size = r0 + 2 := by rw [← hW, ← hr0]; simp
  have CK := Lib.hid (drbod_any g l (some 0) W hl hd0)
  have HR := Lib.hid hr0; have HG := Lib.hid hg; have HW := Lib.hid hW; have HB0 := Lib.hid hb0; have KR := Lib.hid hKR
  have hrw : w.heap.size ≤ r0 := by omega
  have hgw : w.heap.size ≤ g := by omega
  have hrg : r0 ≠ g := by omega
  have hW2 : r0 + 2 ≤ W.heap.size := by omega
  have hwW : w.heap.size ≤ W.heap.size := by omega
  have hll := h.len
  clear hW hd0 hb0 hg hr0 hKR h hWs
  go_enter Try.func75, Try.ntmps75
  go_wp2_with fail
  rw [HR.out, HG.out, HW.out]
  refine CK.out.mono ?_
  rintro e w1 ⟨D, d, x, rfl, fo, fc, fn, hrw0, hby, hd, ho, hgot⟩
  have hsm : BdSm x := ⟨fo, fc, fn⟩
  have hown : BdOwn w1 W.heap.size D d x := ⟨hrw0, hby⟩
  unfold bdCells
  have hs1 := ho.size
  have hb1 : Below w.heap.size w w1 := HB0.out.trans (ho.to_below hwW hgw)
  have kr1 := ho.blk KR.out hrg
  have hb10 := below_new (Below.refl w1.heap.size w1) (.cells #[.int .i64 x.o, .int .i64 x.c, .int .i64 x.n, .slice D x.v.length d] 63)
  have kx := Blk.new w1 63 #[.int .i64 x.o, .int .i64 x.c, .int .i64 x.n, .slice D x.v.length d]
  have kr2 := kr1.later hb10
  have CF := Lib.hid (dfbody_any D d x (w1.alloc (.cells #[.int .i64 x.o, .int .i64 x.c, .int .i64 x.n, .slice D x.v.length d] 63)))
  unfold bdCells at CF
  obtain ⟨A2, c2, rr, b2, hB, hO2, -, hL⟩ := hd
  have hB2 := hB.later hb10
  have hb2 := below_on hb1 hb10
  have ho2 := hown.later hb10
  have hlen2 := hO2.len
  obtain ⟨W1, hW1⟩ : ∃ W1, w1.alloc (.cells #[.int .i64 x.o, .int .i64 x.c, .int .i64 x.n, .slice D x.v.length d] 63) = W1 := ⟨_, rfl⟩
  obtain ⟨bx, hbx⟩ : ∃ bx, w1.heap.size = bx := ⟨_, rfl⟩
  rw [hW1] at hB2 hb2 ho2 kx kr2 CF
  rw [hbx] at kx
  have hsx : r0 + 2 ≤ W1.heap.size := by rw [← hW1]; simp; omega
  have hsw2 : r0 + 2 ≤ bx := by omega
  obtain ⟨s1, hs1'⟩ : ∃ s1, Wi.nxt (Wi.pbod l) (some 0) = s1 := ⟨_, rfl⟩
  rw [hs1'] at hL
  have HW1 := Lib.hid hW1; have HBX := Lib.hid hbx; have HB2 := Lib.hid hb2; have HO2 := Lib.hid ho2; have HKX := Lib.hid kx; have HKR := Lib.hid kr2; have HKG := Lib.hid hB2; have HSM := Lib.hid hsm; have GT := Lib.hid hgot; have HS1 := Lib.hid hs1'
  clear hW1 hbx hb1 hb2 ho2 kx kr1 kr2 hB hB2 hO2 hsm hgot hs1' hown ho hb10 HB0 KR CK fo fc fn hrw0 hby
  go_upto_region 3 with (fail)
  rw [HW1.out]
  rw [HBX.out]
  have z1 := HKG.out.cell (i := 1) rfl
  cases s1 with
  | none =>
    obtain ⟨-, rfl⟩ := hL
    have HPN := Lib.hid (such_none (f := Wi.bright) (p_none HS1.out))
    have bz := below_new (Below.refl W1.heap.size W1) (.cells #[.int .i64 0, .int .i64 0, .int .i64 0, .slice none 0 0] 63)
    have krz := HKR.out.later bz
    have kz := Blk.new W1 63 #[.int .i64 0, .int .i64 0, .int .i64 0, .slice none 0 0]
    obtain ⟨q0, hq0⟩ : ∃ q, W1.heap.size = q := ⟨_, rfl⟩
    rw [hq0] at kz
    have hq2 : r0 ≠ q0 := by have := hsx; omega
    obtain ⟨W9, hW9⟩ : ∃ W9, (W1.alloc (.cells #[.int .i64 0, .int .i64 0, .int .i64 0, .slice none 0 0] 63)) = W9 := ⟨_, rfl⟩
    have hb9 := below_on HB2.out bz
    rw [hW9] at kz krz hb9
    have hq1 : W1.heap.size = q0 := hq0
    have HW9 := Lib.hid hW9; have HQ1 := Lib.hid hq1
    clear hW9 hq1 hq0 bz
    have V1 := Lib.hid (krz.put4 (.int .i64 0) (.int .i64 0) (.int .i64 0) (.slice none 0 0))
    have BZ := Lib.hid (((((hb9.setCell (p := ⟨r0, 0, none⟩) hrw _).setCell (p := ⟨r0, 1, none⟩) hrw _).setCell (p := ⟨r0, 2, none⟩) hrw _).setCell (p := ⟨r0, 3, none⟩) hrw _) : Below w.heap.size w ((((W9.setCell ⟨r0, 0, none⟩ (.int .i64 0)).setCell ⟨r0, 1, none⟩ (.int .i64 0)).setCell ⟨r0, 2, none⟩ (.int .i64 0)).setCell ⟨r0, 3, none⟩ (.slice none 0 0)))
    go_upto_region 5 with (fail)
    rw [HW9.out]
    try rw [HQ1.out]
    have t0 := krz.free 0; have y0 := krz.cell (i := 0) rfl; have x0 := kz.cell (i := 0) rfl
    have t1 := krz.free 1; have y1 := krz.cell (i := 1) rfl; have x1 := kz.cell (i := 1) rfl
    have t2 := krz.free 2; have y2 := krz.cell (i := 2) rfl; have x2 := kz.cell (i := 2) rfl
    have t3 := krz.free 3; have y3 := krz.cell (i := 3) rfl; have x3 := kz.cell (i := 3) rfl
    clear krz kz hb9 z1
    go_wp2
    exact bodyPost_ret (results_cell_tmp2 (p := 6) (t1 := 7) (t2 := 8) (ty := 63) rfl _ _ r0 63 #[.int .i64 0, .int .i64 0, .int .i64 0, .slice none 0 0] _ rfl V1.out Try.underlying63 rfl infoBd) rfl
      ⟨none, 0, zeroBd, _, _, rfl, BdSm.zero, BdOwn.zero _ _, BZ.out, .inr ⟨HPN.out, rfl, rfl, rfl⟩⟩
  | some a =>
    obtain ⟨ha, hr2, rfl⟩ := hL
    have hps := p_of_got HS1.out GT.out
    obtain ⟨fb, hfb⟩ : ∃ fb, Wi.bright x = fb := ⟨_, rfl⟩
    rw [hfb] at CF
    have hrl : rr.length = l.length - a := by rw [hr2, List.length_drop]
    have c0 := HKX.out.cell (i := 0) rfl
    have c1 := HKX.out.cell (i := 1) rfl
    have c2 := HKX.out.cell (i := 2) rfl
    have c3 := HKX.out.cell (i := 3) rfl
    cases fb with
    | false =>
      have HPN := Lib.hid (such_no hps hfb)
      clear hps hfb hr2 hrl
      go_wp2_with fail
      refine CF.out.mono ?_
      rintro e w2 ⟨rfl, b2⟩
      have HB22 := Lib.hid (below_on HB2.out b2); have HKR2 := Lib.hid (HKR.out.later b2)
      have hsx2 : r0 + 2 ≤ w2.heap.size := by have := b2.size; omega
      clear b2 CF c0 c1 c2 c3
      have bz := below_new (Below.refl w2.heap.size w2) (.cells #[.int .i64 0, .int .i64 0, .int .i64 0, .slice none 0 0] 63)
      have krz := HKR2.out.later bz
      have kz := Blk.new w2 63 #[.int .i64 0, .int .i64 0, .int .i64 0, .slice none 0 0]
      obtain ⟨q0, hq0⟩ : ∃ q, w2.heap.size = q := ⟨_, rfl⟩
      rw [hq0] at kz
      have hq2 : r0 ≠ q0 := by have := hsx2; omega
      obtain ⟨W9, hW9⟩ : ∃ W9, (w2.alloc (.cells #[.int .i64 0, .int .i64 0, .int .i64 0, .slice none 0 0] 63)) = W9 := ⟨_, rfl⟩
      have hb9 := below_on HB22.out bz
      rw [hW9] at kz krz hb9
      have hq1 : w2.heap.size = q0 := hq0
      have HW9 := Lib.hid hW9; have HQ1 := Lib.hid hq1
      clear hW9 hq1 hq0 bz
      have V1 := Lib.hid (krz.put4 (.int .i64 0) (.int .i64 0) (.int .i64 0) (.slice none 0 0))
      have BZ := Lib.hid (((((hb9.setCell (p := ⟨r0, 0, none⟩) hrw _).setCell (p := ⟨r0, 1, none⟩) hrw _).setCell (p := ⟨r0, 2, none⟩) hrw _).setCell (p := ⟨r0, 3, none⟩) hrw _) : Below w.heap.size w ((((W9.setCell ⟨r0, 0, none⟩ (.int .i64 0)).setCell ⟨r0, 1, none⟩ (.int .i64 0)).setCell ⟨r0, 2, none⟩ (.int .i64 0)).setCell ⟨r0, 3, none⟩ (.slice none 0 0)))
      go_upto_region 5 with (fail)
      rw [HW9.out]
      try rw [HQ1.out]
      have t0 := krz.free 0; have y0 := krz.cell (i := 0) rfl; have x0 := kz.cell (i := 0) rfl
      have t1 := krz.free 1; have y1 := krz.cell (i := 1) rfl; have x1 := kz.cell (i := 1) rfl
      have t2 := krz.free 2; have y2 := krz.cell (i := 2) rfl; have x2 := kz.cell (i := 2) rfl
      have t3 := krz.free 3; have y3 := krz.cell (i := 3) rfl; have x3 := kz.cell (i := 3) rfl
      clear krz kz hb9 z1
      go_wp2
      exact bodyPost_ret (results_cell_tmp2 (p := 6) (t1 := 7) (t2 := 8) (ty := 63) rfl _ _ r0 63 #[.int .i64 0, .int .i64 0, .int .i64 0, .slice none 0 0] _ rfl V1.out Try.underlying63 rfl infoBd) rfl
        ⟨none, 0, zeroBd, _, _, rfl, BdSm.zero, BdOwn.zero _ _, BZ.out, .inr ⟨HPN.out, rfl, rfl, rfl⟩⟩
    | true =>
      have HPN := Lib.hid (such_yes hps hfb); have HRL := Lib.hid hrl
      clear hps hfb hr2 hrl
      go_wp2_with fail
      refine CF.out.mono ?_
      rintro e w2 ⟨rfl, b2⟩
      have HB22 := Lib.hid (below_on HB2.out b2); have HKR2 := Lib.hid (HKR.out.later b2); have HKX2 := Lib.hid (HKX.out.later b2); have HKG2 := Lib.hid (HKG.out.later b2); have HO22 := Lib.hid (HO2.out.later b2)
      clear b2 CF c0 c1 c2 c3 z1
      have hsub1 : (0 : Int) ≤ (l.length : Int) - (rr.length : Int) := by rw [HRL.out]; omega
      have hsub2 : (l.length : Int) - (rr.length : Int) ≤ 9223372036854775807 := by omega
      go_upto_region 6 with (fail)
      have krb := HKR2.out.drew; have kxb := HKX2.out.drew; have kgb := HKG2.out.drew; have hbb := HB22.out.drew
      have hob := HO22.out.later (Below.refl w2.heap.size w2).drew
      obtain ⟨BS, hBS⟩ : ∃ BS, w2.drew = BS := ⟨_, rfl⟩
      rw [hBS] at krb kxb kgb hbb hob
      have v1 := krb.row #[.int .i64 x.o, .int .i64 x.c, .int .i64 x.n, .slice D x.v.length d]
      have kxs := kxb.rowFar (show bx ≠ r0 by omega) #[.int .i64 x.o, .int .i64 x.c, .int .i64 x.n, .slice D x.v.length d]
      have kgs := kgb.rowFar (show g ≠ r0 from fun e => hrg e.symm) #[.int .i64 x.o, .int .i64 x.c, .int .i64 x.n, .slice D x.v.length d]
      have mo := BdOwn.down (hob.only (Only.row BS r0 #[.int .i64 x.o, .int .i64 x.c, .int .i64 x.n, .slice D x.v.length d]) (show r0 < W.heap.size by omega)) hwW
      have bs : Below w.heap.size w (BS.setRow r0 #[.int .i64 x.o, .int .i64 x.c, .int .i64 x.n, .slice D x.v.length d]) := hbb.trans ((Only.row BS r0 #[.int .i64 x.o, .int .i64 x.c, .int .i64 x.n, .slice D x.v.length d]).to_below hbb.size hrw)
      obtain ⟨ST, hST⟩ : ∃ ST, (BS.setRow r0 #[.int .i64 x.o, .int .i64 x.c, .int .i64 x.n, .slice D x.v.length d]) = ST := ⟨_, rfl⟩
      have HST := Lib.hid hST
      rw [hST] at v1 kxs kgs mo bs
      have V1 := Lib.hid v1; have KXB := Lib.hid kxb; have KXS := Lib.hid kxs; have KGB := Lib.hid kgb; have KGS := Lib.hid kgs; have KRB := Lib.hid krb; have MO := Lib.hid mo; have BSS := Lib.hid bs; have HBS := Lib.hid hBS
      clear v1 kxb kxs kgb kgs krb mo bs hST hbb hob hBS
      refine wp_region_gen 10 (by kernel_rfl) (by kernel_rfl) (fun v => { tmps := #[.slice A l.length c, .func (.func 76) #[] #[], .func (.func 72) #[] #[], undef, undef, undef, .pointer (some ⟨r0, 0, none⟩), .int .i64 0, .int .i64 0, .pointer (some ⟨g, 0, none⟩), .pointer (some ⟨bx, 0, none⟩), undef, .slice A l.length c, .agg #[.slice A l.length c, .bool false], .pointer (some ⟨g, 0, none⟩), .func (.func 76) #[] #[], .pointer (some ⟨g, 0, none⟩), .agg #[.int .i64 x.o, .int .i64 x.c, .int .i64 x.n, .slice D x.v.length d], .pointer (some ⟨g, 0, none⟩), .pointer (some ⟨g, 0, none⟩), .pointer (some ⟨g, 1, none⟩), .bool false, .bool false, .func (.func 72) #[] #[], .agg #[.int .i64 x.o, .int .i64 x.c, .int .i64 x.n, .slice D x.v.length d], .bool true, .bool false, .bool false, undef, v 0, v 1, v 2, v 3, v 4, v 5, v 6, v 7, v 8], defers := [] }) (fun _ => undef)
        (BgI BS ST (fun (i : Nat) (z : Value) => match i with | 0 => z = .agg #[.int .i64 x.o, .int .i64 x.c, .int .i64 x.n, .slice D x.v.length d] | 1 => z = .slice A l.length c | 2 => z = .int .i64 (l.length : Int) | 3 => z = .pointer (some ⟨g, 0, none⟩) | 4 => z = .pointer (some ⟨g, 0, none⟩) | 5 => z = .pointer (some ⟨g, 0, none⟩) | 6 => z = .slice A2 rr.length c2 | 7 => z = .int .i64 (rr.length : Int) | 8 => z = .int .i64 ((l.length : Int) - (rr.length : Int)) | _ => True)) ?start ?step ?done
      case start => exact fun L hL => ⟨by rw [hL 9 (by omega)]; exact HBS.out, fun i hi h => by rw [hL i (by omega)] at h; cases h⟩
      case step =>
        intro i hi L v w' hI hun hd
        have hw := hI.w; have hC := hI.c
        have hkx : Blk w' bx 63 #[.int .i64 x.o, .int .i64 x.c, .int .i64 x.n, .slice D x.v.length d] := by rw [hw]; cases L 9 <;> first | exact KXB.out | exact KXS.out
        have hkg : Blk w' g 126 #[.slice A2 rr.length c2, .bool false] := by rw [hw]; cases L 9 <;> first | exact KGB.out | exact KGS.out
        match i, hi with
        | 0, _ =>
          have ST9 := Lib.hid (hI.still (i := 0) (z := .agg #[.int .i64 x.o, .int .i64 x.c, .int .i64 x.n, .slice D x.v.length d]) rfl (by decide))
          have c0 := hkx.cell (i := 0) rfl
          have c1 := hkx.cell (i := 1) rfl
          have c2 := hkx.cell (i := 2) rfl
          have c3 := hkx.cell (i := 3) rfl
          refine wpOp_one rfl ?_
          clear hd hC hkx hkg hw hI
          go_wp2
          first | exact ⟨_, (by simp [upd]; done), ST9.out⟩ | exact ⟨(by simp [upd]; done), ST9.out⟩
        | 1, _ =>
          have ST9 := Lib.hid (hI.still (i := 1) (z := .slice A l.length c) rfl (by decide))
          refine wpOp_one rfl ?_
          clear hd hC hkx hkg hw hI
          go_wp2
          first | exact ⟨_, (by simp [upd]; done), ST9.out⟩ | exact ⟨(by simp [upd]; done), ST9.out⟩
        | 2, _ =>
          have h1 : v 1 = _ := hC 1 (by omega) (hd 1 (List.elem_iff.1 (by kernel_rfl)))
          have ST9 := Lib.hid (hI.still (i := 2) (z := .int .i64 (l.length : Int)) rfl (by decide))
          refine wpOp_one rfl ?_
          clear hd hC hkx hkg hw hI
          rw [h1]
          go_wp2
          first | exact ⟨_, (by simp [upd, h1]; done), ST9.out⟩ | exact ⟨(by simp [upd, h1]; done), ST9.out⟩
        | 3, _ =>
          have ST9 := Lib.hid (hI.still (i := 3) (z := .pointer (some ⟨g, 0, none⟩)) rfl (by decide))
          refine wpOp_one rfl ?_
          clear hd hC hkx hkg hw hI
          go_wp2
          first | exact ⟨_, (by simp [upd]; done), ST9.out⟩ | exact ⟨(by simp [upd]; done), ST9.out⟩
        | 4, _ =>
          have h3 : v 3 = _ := hC 3 (by omega) (hd 3 (List.elem_iff.1 (by kernel_rfl)))
          have ST9 := Lib.hid (hI.still (i := 4) (z := .pointer (some ⟨g, 0, none⟩)) rfl (by decide))
          refine wpOp_one rfl ?_
          clear hd hC hkx hkg hw hI
          rw [h3]
          go_wp2
          first | exact ⟨_, (by simp [upd, h3]; done), ST9.out⟩ | exact ⟨(by simp [upd, h3]; done), ST9.out⟩
        | 5, _ =>
          have h4 : v 4 = _ := hC 4 (by omega) (hd 4 (List.elem_iff.1 (by kernel_rfl)))
          have ST9 := Lib.hid (hI.still (i := 5) (z := .pointer (some ⟨g, 0, none⟩)) rfl (by decide))
          refine wpOp_one rfl ?_
          clear hd hC hkx hkg hw hI
          rw [h4]
          go_wp2
          first | exact ⟨_, (by simp [upd, h4]; done), ST9.out⟩ | exact ⟨(by simp [upd, h4]; done), ST9.out⟩
        | 6, _ =>
          have h5 : v 5 = _ := hC 5 (by omega) (hd 5 (List.elem_iff.1 (by kernel_rfl)))
          have ST9 := Lib.hid (hI.still (i := 6) (z := .slice A2 rr.length c2) rfl (by decide))
          have c0 := hkg.cell (i := 0) rfl
          refine wpOp_one rfl ?_
          clear hd hC hkx hkg hw hI
          rw [h5]
          go_wp2
          first | exact ⟨_, (by simp [upd, h5]; done), ST9.out⟩ | exact ⟨(by simp [upd, h5]; done), ST9.out⟩
        | 7, _ =>
          have h6 : v 6 = _ := hC 6 (by omega) (hd 6 (List.elem_iff.1 (by kernel_rfl)))
          have ST9 := Lib.hid (hI.still (i := 7) (z := .int .i64 (rr.length : Int)) rfl (by decide))
          refine wpOp_one rfl ?_
          clear hd hC hkx hkg hw hI
          rw [h6]
          go_wp2
          first | exact ⟨_, (by simp [upd, h6]; done), ST9.out⟩ | exact ⟨(by simp [upd, h6]; done), ST9.out⟩
        | 8, _ =>
          have h2 : v 2 = _ := hC 2 (by omega) (hd 2 (List.elem_iff.1 (by kernel_rfl)))
          have h7 : v 7 = _ := hC 7 (by omega) (hd 7 (List.elem_iff.1 (by kernel_rfl)))
          have ST9 := Lib.hid (hI.still (i := 8) (z := .int .i64 ((l.length : Int) - (rr.length : Int))) rfl (by decide))
          refine wpOp_one rfl ?_
          clear hd hC hkx hkg hw hI
          rw [h2, h7]
          go_wp2
          first | exact ⟨_, (by simp [upd, h2, h7]; done), ST9.out⟩ | exact ⟨(by simp [upd, h2, h7]; done), ST9.out⟩
        | 9, _ =>
          have h0 : v 0 = _ := hC 0 (by omega) (hd 0 (List.elem_iff.1 (by kernel_rfl)))
          rw [hun] at hw
          have hw : w' = BS := hw
          subst hw
          have ST9 := Lib.hid (hI.store undef)
          refine wpOp_oneK rfl (fun KK hKK => ?_)
          have HKK := Lib.hid hKK
          clear hKK hd hC hkx hkg hI
          rw [h0]
          simp only [List.getElem_toArray, List.getElem_cons_succ, List.getElem_cons_zero]
          refine wpList_store_row rfl 63 _ _ rfl r0 #[.int .i64 x.o, .int .i64 x.c, .int .i64 x.n, .slice D x.v.length d] rfl rfl 63 #[.int .i64 0, .int .i64 0, .int .i64 0, .slice none 0 0] KRB.out infoBd rfl (by simp [Value.oneCell']) ?_
          rw [HST.out]
          exact HKK.out _ _ ⟨undef, (by simp [upd, h0, Act.put]; done), ST9.out⟩
        | k + 10, hk => exact absurd hk (by omega)
      case done =>
        intro L v w5 hI hall
        have hw := hI.w; have hC := hI.c
        rw [hall 9 (by omega)] at hw
        have hw : w5 = ST := hw
        subst hw
        have h8 : v 8 = _ := hC 8 (by omega) (hall 8 (by omega))
        clear hall hC hI
        simp only [List.drop_succ_cons, List.drop_zero]
        rw [h8]
        go_wp2
        have hk : (l.length : Int) - (rr.length : Int) = (a : Int) := by rw [HRL.out]; omega
        exact bodyPost_ret (results_cell_tmp2 (p := 6) (t1 := 7) (t2 := 8) (ty := 63) rfl _ _ r0 63 #[.int .i64 x.o, .int .i64 x.c, .int .i64 x.n, .slice D x.v.length d] _ rfl V1.out Try.underlying63 rfl infoBd) rfl
          ⟨D, d, x, _, _, rfl, HSM.out, MO.out, BSS.out, .inl ⟨a, HPN.out, hk, rfl⟩⟩

end Go.Proofs.Ytbbmngabbbehcaa
