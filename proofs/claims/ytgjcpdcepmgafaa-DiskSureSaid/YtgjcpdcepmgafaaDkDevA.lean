/-
  What disk's Sync, file, Get, Cut answer.
-/
import Derived.Test.YtgjcpdcepmgafaaDkSpec
import Derived.Deep.RegionWith
namespace Go.Proofs.Ytgjcpdcepmgafaa
open Go.RowKit

set_option maxRecDepth 100000 in
set_option maxHeartbeats 1600000 in
theorem dsync_any (room : Int) (A : Option Addr) (c : Nat) (L : List Fc) (w : World) (h : OneD w A c L) :
    Calls Try.prog 26 #[.agg #[.int .i64 room, .slice A L.length c]] w (GivesDE (Dk.synR room (L.map Fc.fi)) w) := by
  have bn := below_new (below_new (Below.refl w.heap.size w) (.cells #[.int .i64 room, .slice A L.length c] 24)) (.cells #[.int .i64 0, .slice none 0 0] 24)
  have N := Lib.hid (dformed_any room A c L _ (h.later bn))
  have B1 := Lib.hid (Blk.new (w.alloc (.cells #[.int .i64 room, .slice A L.length c] 24)) 24 #[.int .i64 0, .slice none 0 0])
  have B0 := Lib.hid ((Blk.new w 24 #[.int .i64 room, .slice A L.length c]).alloc (.cells #[.int .i64 0, .slice none 0 0] 24))
  have HD := Lib.hid h
  clear h
  cases hq : Dk.fmd room (L.map Fc.fi) with
  | false =>
    have hR : Dk.synR room (L.map Fc.fi) = (0, [], 1) := by unfold Dk.synR; rw [if_neg (by rw [hq]; exact Bool.false_ne_true)]
    rw [hR]
    rw [hq] at N
    clear hq hR HD
    go_enter Try.func26, Try.ntmps26
    go_wp2_with fail
    refine N.out.mono ?_
    rintro e w1 ⟨rfl, b1⟩
    have z := (B1.out.later b1)
    have z' : Blk w1 (w.heap.size + 1) 24 #[.int .i64 0, .slice none 0 0] := by simpa using z
    have y0 := z'.cell (i := 0) rfl
    have y1 := z'.cell (i := 1) rfl
    have s0 := z'.free 0
    have s1 := z'.free 1
    have hz := (z'.put 0 (.int .i64 0)).put 1 (.slice none 0 0)
    have z0 := Lib.hid (hz.cell (i := 0) rfl)
    have z1 := Lib.hid (hz.cell (i := 1) rfl)
    have FIN := Lib.hid (GivesDE.err 1 (((below_on bn b1).setCell (p := ⟨w.heap.size + 1, 0, none⟩) (by show w.heap.size ≤ w.heap.size + 1; omega) (.int .i64 0)).setCell (p := ⟨w.heap.size + 1, 1, none⟩) (by show w.heap.size ≤ w.heap.size + 1; omega) (.slice none 0 0)))
    clear z z' hz
    go_wp2
    have z0 := z0.out
    have z1 := z1.out
    exact bodyPost_ret (v := .tuple #[.agg #[.int .i64 0, .slice none 0 0], .int .i64 1]) (by simp [results, Try.results26, go_sem, z0, z1]) rfl FIN.out
  | true =>
    have hR : Dk.synR room (L.map Fc.fi) = (room, (L.map Fc.fi).map Dk.syn1, 0) := by unfold Dk.synR; rw [if_pos hq]
    rw [hR]
    rw [hq] at N
    have HF := Lib.hid (Dk.fit hq)
    clear hq hR
    go_enter Try.func26, Try.ntmps26
    go_wp2_with fail
    refine N.out.mono ?_
    rintro e w1 ⟨rfl, b1⟩
    have bb := below_on bn b1
    have c0 := (B0.out.later b1).cell (i := 0) rfl
    have c1 := (B0.out.later b1).cell (i := 1) rfl
    have N2 := Lib.hid (changed_any room A c L 43 #[] (fun _ _ => rfl) (JB w1.heap.size w1 (L.map Fc.fi) Dk.syn1) w1 (HD.out.later bb) HF.out (JB.start _ _ _ _) (fun d W W' => JB.stab d W W') (syncChg _ _ _ _))
    have z' : Blk w1 (w.heap.size + 1) 24 #[.int .i64 0, .slice none 0 0] := by simpa using B1.out.later b1
    have hs1 := b1.size
    have Z := Lib.hid z'
    clear z'
    go_wp2_with fail
    refine N2.out.mono ?_
    rintro e w2 ⟨v, L2, rfl, hO, hl, hJ⟩
    have b2 := hJ.1
    have hfi := hJ.done (by simp [hl])
    obtain ⟨V, cv, rfl, -, -, -, -⟩ := own_form hO.row
    have z' := Z.out.later b2
    have y0 := z'.cell (i := 0) rfl
    have y1 := z'.cell (i := 1) rfl
    have s0 := z'.free 0
    have s1 := z'.free 1
    have hz := (z'.put 0 (.int .i64 room)).put 1 (.slice V L2.length cv)
    have z0 := Lib.hid (hz.cell (i := 0) rfl)
    have z1 := Lib.hid (hz.cell (i := 1) rfl)
    have hlt := Z.out.lt
    have hO2 := ((hO.low (p := ⟨w.heap.size + 1, 0, none⟩) hlt (.int .i64 room)).low (p := ⟨w.heap.size + 1, 1, none⟩) hlt (.slice V L2.length cv)).lower (base' := w.heap.size) (by omega)
    have hbz := ((below_on bb b2).setCell (p := ⟨w.heap.size + 1, 0, none⟩) (by show w.heap.size ≤ w.heap.size + 1; omega) (.int .i64 room)).setCell (p := ⟨w.heap.size + 1, 1, none⟩) (by show w.heap.size ≤ w.heap.size + 1; omega) (.slice V L2.length cv)
    have FIN := Lib.hid (show GivesDE (room, (L.map Fc.fi).map Dk.syn1, 0) w (.returned (.tuple #[.agg #[.int .i64 room, .slice V L2.length cv], .int .i64 0])) _ from ⟨_, L2, rfl, hO2, hfi, hbz⟩)
    clear hO hl hJ hfi z' hz hO2 hbz b2
    go_wp2
    have z0 := z0.out
    have z1 := z1.out
    exact bodyPost_ret (v := .tuple #[.agg #[.int .i64 room, .slice V L2.length cv], .int .i64 0]) (by simp [results, Try.results26, go_sem, z0, z1]) rfl FIN.out
end Go.Proofs.Ytgjcpdcepmgafaa
