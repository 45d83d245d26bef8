/-
  The laws DiskCrashes, DiskFiles, DiskAppends, walked.
-/
import Derived.Test.YtgjcpdcepmgafaaDkAlive
import Derived.Test.YtgjcpdcepmgafaaDkSame
import Derived.Lib.QuietBelow
namespace Go.Proofs.Ytgjcpdcepmgafaa
open Go.RowKit

set_option maxRecDepth 100000 in
set_option maxHeartbeats 6400000 in
theorem lawDiskCrashes_any (room keep turn : Int) (A : Option Addr) (c : Nat) (L : List Fc) (w : World) (h : OneD w A c L) (hf : Fit L) (hk : keep ≤ 9223372036854775807) :
    Calls Try.prog 5 #[.agg #[.int .i64 room, .slice A L.length c], .int .i64 keep, .int .i64 turn] w (Says (.bool true) w) := by
  obtain ⟨⟨rm, fs, k⟩, hR⟩ : ∃ r, Dk.crsR room (L.map Fc.fi) keep turn = r := ⟨_, rfl⟩
  obtain ⟨⟨rm2, fs2, k2⟩, hR2⟩ : ∃ r, Dk.synR room (L.map Fc.fi) = r := ⟨_, rfl⟩
  have HR := Lib.hid hR; have HR2 := Lib.hid hR2
  clear hR hR2
  have b := below_new (Below.refl w.heap.size w) (.cells #[.int .i64 room, .slice A L.length c] 24)
  have HD := Lib.hid (h.later b)
  have Y3 := Lib.hid (Blk.new w 24 #[.int .i64 room, .slice A L.length c])
  have HFT := Lib.hid hf
  have BB0 := Lib.hid b
  clear b h hf
  go_enter Try.func5, Try.ntmps5
  have n := dalive_any (w.alloc (.cells #[.int .i64 room, .slice A L.length c] 24))
  have NN := Lib.hid n
  clear n
  go_wp2_with fail
  refine NN.out.mono ?_
  clear NN
  rintro e x1 ⟨rfl, b⟩
  replace HD := Lib.hid (HD.out.later b)
  replace Y3 := Lib.hid (Y3.out.later b)
  have BB1 := Lib.hid (below_on BB0.out b)
  clear b
  have n := rcopyD_any room A c L _ HD.out HFT.out
  have NN := Lib.hid n
  clear n
  have cY30 := Y3.out.cell (i := 0) rfl
  have cY31 := Y3.out.cell (i := 1) rfl
  go_wp2_with fail
  refine NN.out.mono ?_
  clear NN
  rintro e xo ⟨v, Lo, rfl, hO, hf, b⟩
  obtain ⟨Ao, co, rfl, -⟩ := hO.one
  clear cY30 cY31
  replace HD := Lib.hid (HD.out.later b)
  replace Y3 := Lib.hid (Y3.out.later b)
  have Oo := Lib.hid (hO.oneD)
  have HFo := Lib.hid hf
  have BB2 := Lib.hid (below_on BB1.out b)
  clear b hO hf
  have b := below_new (Below.refl xo.heap.size xo) (.cells #[.int .i64 room, .slice Ao Lo.length co] 24)
  replace HD := Lib.hid (HD.out.later b)
  replace Y3 := Lib.hid (Y3.out.later b)
  replace Oo := Lib.hid (Oo.out.later b)
  have Y7 := Lib.hid (Blk.new xo 24 #[.int .i64 room, .slice Ao Lo.length co])
  have BB2a := Lib.hid (below_on BB2.out b)
  clear b
  have n := dcrash_any room keep turn Ao co Lo _ Oo.out hk
  rw [HFo.out, HR.out] at n
  have NN := Lib.hid n
  clear n
  have cY70 := Y7.out.cell (i := 0) rfl
  have cY71 := Y7.out.cell (i := 1) rfl
  go_wp2_with fail
  refine NN.out.mono ?_
  clear NN
  intro e xp h
  obtain ⟨Ap, cp, Lp, rfl, hO, hf, b⟩ := h.open
  clear h
  clear cY70 cY71
  replace HD := Lib.hid (HD.out.later b)
  replace Y3 := Lib.hid (Y3.out.later b)
  replace Oo := Lib.hid (Oo.out.later b)
  replace Y7 := Lib.hid (Y7.out.later b)
  have Op := Lib.hid (hO.oneD)
  have HFp := Lib.hid hf
  have BB3 := Lib.hid (below_on BB2a.out b)
  clear b hO hf
  have b := below_new (Below.refl xp.heap.size xp) (.cells #[.int .i64 rm, .slice Ap Lp.length cp] 24)
  replace HD := Lib.hid (HD.out.later b)
  replace Y3 := Lib.hid (Y3.out.later b)
  replace Oo := Lib.hid (Oo.out.later b)
  replace Y7 := Lib.hid (Y7.out.later b)
  replace Op := Lib.hid (Op.out.later b)
  have Y8 := Lib.hid (Blk.new xp 24 #[.int .i64 rm, .slice Ap Lp.length cp])
  have BB3a := Lib.hid (below_on BB3.out b)
  clear b
  have n := rcrash_any room keep turn A c L _ HD.out hk
  rw [HR.out] at n
  have NN := Lib.hid n
  clear n
  have cY30 := Y3.out.cell (i := 0) rfl
  have cY31 := Y3.out.cell (i := 1) rfl
  go_wp2_with fail
  refine NN.out.mono ?_
  clear NN
  intro e xq h
  obtain ⟨Aq, cq, Lq, rfl, hO, hf, b⟩ := h.open
  clear h
  clear cY30 cY31
  replace HD := Lib.hid (HD.out.later b)
  replace Y3 := Lib.hid (Y3.out.later b)
  replace Oo := Lib.hid (Oo.out.later b)
  replace Y7 := Lib.hid (Y7.out.later b)
  replace Op := Lib.hid (Op.out.later b)
  replace Y8 := Lib.hid (Y8.out.later b)
  have Oq := Lib.hid (hO.oneD)
  have HFq := Lib.hid hf
  have BB4 := Lib.hid (below_on BB3a.out b)
  clear b hO hf
  have b := below_new (Below.refl xq.heap.size xq) (.cells #[.int .i64 rm, .slice Aq Lq.length cq] 24)
  replace HD := Lib.hid (HD.out.later b)
  replace Y3 := Lib.hid (Y3.out.later b)
  replace Oo := Lib.hid (Oo.out.later b)
  replace Y7 := Lib.hid (Y7.out.later b)
  replace Op := Lib.hid (Op.out.later b)
  replace Y8 := Lib.hid (Y8.out.later b)
  replace Oq := Lib.hid (Oq.out.later b)
  have Y10 := Lib.hid (Blk.new xq 24 #[.int .i64 rm, .slice Aq Lq.length cq])
  have BB4a := Lib.hid (below_on BB4.out b)
  clear b
  have n := dsync_any room Ao co Lo _ Oo.out
  rw [HFo.out, HR2.out] at n
  have NN := Lib.hid n
  clear n
  have cY70 := Y7.out.cell (i := 0) rfl
  have cY71 := Y7.out.cell (i := 1) rfl
  go_wp2_with fail
  refine NN.out.mono ?_
  clear NN
  intro e xs h
  obtain ⟨As, cs, Ls, rfl, hO, hf, b⟩ := h.open
  clear h
  clear cY70 cY71
  replace HD := Lib.hid (HD.out.later b)
  replace Y3 := Lib.hid (Y3.out.later b)
  replace Oo := Lib.hid (Oo.out.later b)
  replace Y7 := Lib.hid (Y7.out.later b)
  replace Op := Lib.hid (Op.out.later b)
  replace Y8 := Lib.hid (Y8.out.later b)
  replace Oq := Lib.hid (Oq.out.later b)
  replace Y10 := Lib.hid (Y10.out.later b)
  have Os := Lib.hid (hO.oneD)
  have HFs := Lib.hid hf
  have BB5 := Lib.hid (below_on BB4a.out b)
  clear b hO hf
  have b := below_new (Below.refl xs.heap.size xs) (.cells #[.int .i64 rm2, .slice As Ls.length cs] 24)
  replace HD := Lib.hid (HD.out.later b)
  replace Y3 := Lib.hid (Y3.out.later b)
  replace Oo := Lib.hid (Oo.out.later b)
  replace Y7 := Lib.hid (Y7.out.later b)
  replace Op := Lib.hid (Op.out.later b)
  replace Y8 := Lib.hid (Y8.out.later b)
  replace Oq := Lib.hid (Oq.out.later b)
  replace Y10 := Lib.hid (Y10.out.later b)
  replace Os := Lib.hid (Os.out.later b)
  have Y12 := Lib.hid (Blk.new xs 24 #[.int .i64 rm2, .slice As Ls.length cs])
  have BB5a := Lib.hid (below_on BB5.out b)
  clear b
  have n := rsync_any room A c L _ HD.out
  rw [HR2.out] at n
  have NN := Lib.hid n
  clear n
  have cY30 := Y3.out.cell (i := 0) rfl
  have cY31 := Y3.out.cell (i := 1) rfl
  go_wp2_with fail
  refine NN.out.mono ?_
  clear NN
  intro e xt h
  obtain ⟨At, ct, Lt, rfl, hO, hf, b⟩ := h.open
  clear h
  clear cY30 cY31
  replace HD := Lib.hid (HD.out.later b)
  replace Y3 := Lib.hid (Y3.out.later b)
  replace Oo := Lib.hid (Oo.out.later b)
  replace Y7 := Lib.hid (Y7.out.later b)
  replace Op := Lib.hid (Op.out.later b)
  replace Y8 := Lib.hid (Y8.out.later b)
  replace Oq := Lib.hid (Oq.out.later b)
  replace Y10 := Lib.hid (Y10.out.later b)
  replace Os := Lib.hid (Os.out.later b)
  replace Y12 := Lib.hid (Y12.out.later b)
  have Ot := Lib.hid (hO.oneD)
  have HFt := Lib.hid hf
  have BB6 := Lib.hid (below_on BB5a.out b)
  clear b hO hf
  have b := below_new (Below.refl xt.heap.size xt) (.cells #[.int .i64 rm2, .slice At Lt.length ct] 24)
  replace HD := Lib.hid (HD.out.later b)
  replace Y3 := Lib.hid (Y3.out.later b)
  replace Oo := Lib.hid (Oo.out.later b)
  replace Y7 := Lib.hid (Y7.out.later b)
  replace Op := Lib.hid (Op.out.later b)
  replace Y8 := Lib.hid (Y8.out.later b)
  replace Oq := Lib.hid (Oq.out.later b)
  replace Y10 := Lib.hid (Y10.out.later b)
  replace Os := Lib.hid (Os.out.later b)
  replace Y12 := Lib.hid (Y12.out.later b)
  replace Ot := Lib.hid (Ot.out.later b)
  have Y14 := Lib.hid (Blk.new xt 24 #[.int .i64 rm2, .slice At Lt.length ct])
  have BB6a := Lib.hid (below_on BB6.out b)
  clear b
  have n := rsameD_any rm rm Ap Aq cp cq Lp Lq _ Op.out Oq.out
  rw [decide_eq_true (show rm = rm ∧ Lp.map Fc.fi = Lq.map Fc.fi from ⟨rfl, by rw [HFp.out, HFq.out]⟩)] at n
  have NN := Lib.hid n
  clear n
  have cY80 := Y8.out.cell (i := 0) rfl
  have cY81 := Y8.out.cell (i := 1) rfl
  have cY100 := Y10.out.cell (i := 0) rfl
  have cY101 := Y10.out.cell (i := 1) rfl
  go_wp2_with fail
  refine NN.out.mono ?_
  clear NN
  rintro e x7 ⟨rfl, b⟩
  clear cY80 cY81 cY100 cY101
  replace HD := Lib.hid (HD.out.later b)
  replace Y3 := Lib.hid (Y3.out.later b)
  replace Oo := Lib.hid (Oo.out.later b)
  replace Y7 := Lib.hid (Y7.out.later b)
  replace Op := Lib.hid (Op.out.later b)
  replace Y8 := Lib.hid (Y8.out.later b)
  replace Oq := Lib.hid (Oq.out.later b)
  replace Y10 := Lib.hid (Y10.out.later b)
  replace Os := Lib.hid (Os.out.later b)
  replace Y12 := Lib.hid (Y12.out.later b)
  replace Ot := Lib.hid (Ot.out.later b)
  replace Y14 := Lib.hid (Y14.out.later b)
  have BB7 := Lib.hid (below_on BB6a.out b)
  clear b
  have n := rsameD_any rm2 rm2 As At cs ct Ls Lt _ Os.out Ot.out
  rw [decide_eq_true (show rm2 = rm2 ∧ Ls.map Fc.fi = Lt.map Fc.fi from ⟨rfl, by rw [HFs.out, HFt.out]⟩)] at n
  have NN := Lib.hid n
  clear n
  have cY120 := Y12.out.cell (i := 0) rfl
  have cY121 := Y12.out.cell (i := 1) rfl
  have cY140 := Y14.out.cell (i := 0) rfl
  have cY141 := Y14.out.cell (i := 1) rfl
  go_wp2_with fail
  refine NN.out.mono ?_
  clear NN
  rintro e x8 ⟨rfl, b⟩
  clear cY120 cY121 cY140 cY141
  replace HD := Lib.hid (HD.out.later b)
  replace Y3 := Lib.hid (Y3.out.later b)
  replace Oo := Lib.hid (Oo.out.later b)
  replace Y7 := Lib.hid (Y7.out.later b)
  replace Op := Lib.hid (Op.out.later b)
  replace Y8 := Lib.hid (Y8.out.later b)
  replace Oq := Lib.hid (Oq.out.later b)
  replace Y10 := Lib.hid (Y10.out.later b)
  replace Os := Lib.hid (Os.out.later b)
  replace Y12 := Lib.hid (Y12.out.later b)
  replace Ot := Lib.hid (Ot.out.later b)
  replace Y14 := Lib.hid (Y14.out.later b)
  have BB8 := Lib.hid (below_on BB7.out b)
  clear b
  have n := rsameD_any room room Ao A co c Lo L _ Oo.out HD.out
  rw [decide_eq_true (show room = room ∧ Lo.map Fc.fi = L.map Fc.fi from ⟨rfl, HFo.out⟩)] at n
  have NN := Lib.hid n
  clear n
  have cY70 := Y7.out.cell (i := 0) rfl
  have cY71 := Y7.out.cell (i := 1) rfl
  have cY30 := Y3.out.cell (i := 0) rfl
  have cY31 := Y3.out.cell (i := 1) rfl
  go_wp2_with fail
  refine NN.out.mono ?_
  clear NN
  rintro e x9 ⟨rfl, b⟩
  clear cY70 cY71 cY30 cY31
  replace HD := Lib.hid (HD.out.later b)
  replace Y3 := Lib.hid (Y3.out.later b)
  replace Oo := Lib.hid (Oo.out.later b)
  replace Y7 := Lib.hid (Y7.out.later b)
  replace Op := Lib.hid (Op.out.later b)
  replace Y8 := Lib.hid (Y8.out.later b)
  replace Oq := Lib.hid (Oq.out.later b)
  replace Y10 := Lib.hid (Y10.out.later b)
  replace Os := Lib.hid (Os.out.later b)
  replace Y12 := Lib.hid (Y12.out.later b)
  replace Ot := Lib.hid (Ot.out.later b)
  replace Y14 := Lib.hid (Y14.out.later b)
  have BB9 := Lib.hid (below_on BB8.out b)
  clear b
  go_wp2
  go_ret
  exact ⟨rfl, BB9.out⟩

set_option maxRecDepth 100000 in
set_option maxHeartbeats 6400000 in
theorem lawDiskFiles_any (room n m : Int) (A : Option Addr) (c : Nat) (L : List Fc) (w : World) (h : OneD w A c L) (hf : Fit L) :
    Calls Try.prog 4 #[.agg #[.int .i64 room, .slice A L.length c], .int .i64 n, .int .i64 m] w (Says (.bool true) w) := by
  obtain ⟨⟨bs, k1⟩, hR⟩ : ∃ r, Dk.getR room (L.map Fc.fi) n = r := ⟨_, rfl⟩
  obtain ⟨⟨rm, fs, k⟩, hR2⟩ : ∃ r, Dk.cutR room (L.map Fc.fi) n m = r := ⟨_, rfl⟩
  obtain ⟨⟨rm2, fs2, k2⟩, hR3⟩ : ∃ r, Dk.remR room (L.map Fc.fi) n = r := ⟨_, rfl⟩
  have HR := Lib.hid hR; have HR2 := Lib.hid hR2; have HR3 := Lib.hid hR3
  clear hR hR2 hR3
  have b := below_new (Below.refl w.heap.size w) (.cells #[.int .i64 room, .slice A L.length c] 24)
  have HD := Lib.hid (h.later b)
  have Y3 := Lib.hid (Blk.new w 24 #[.int .i64 room, .slice A L.length c])
  have HFT := Lib.hid hf
  have BB0 := Lib.hid b
  clear b h hf
  go_enter Try.func4, Try.ntmps4
  have nn := dalive_any (w.alloc (.cells #[.int .i64 room, .slice A L.length c] 24))
  have NN := Lib.hid nn
  clear nn
  go_wp2_with fail
  refine NN.out.mono ?_
  clear NN
  rintro e x1 ⟨rfl, b⟩
  replace HD := Lib.hid (HD.out.later b)
  replace Y3 := Lib.hid (Y3.out.later b)
  have BB1 := Lib.hid (below_on BB0.out b)
  clear b
  have nn := rcopyD_any room A c L _ HD.out HFT.out
  have NN := Lib.hid nn
  clear nn
  have cY30 := Y3.out.cell (i := 0) rfl
  have cY31 := Y3.out.cell (i := 1) rfl
  go_wp2_with fail
  refine NN.out.mono ?_
  clear NN
  rintro e xo ⟨v, Lo, rfl, hO, hf, b⟩
  obtain ⟨Ao, co, rfl, -⟩ := hO.one
  clear cY30 cY31
  replace HD := Lib.hid (HD.out.later b)
  replace Y3 := Lib.hid (Y3.out.later b)
  have Oo := Lib.hid (hO.oneD)
  have HFo := Lib.hid hf
  have BB2 := Lib.hid (below_on BB1.out b)
  clear b hO hf
  have b := below_new (Below.refl xo.heap.size xo) (.cells #[.int .i64 room, .slice Ao Lo.length co] 24)
  replace HD := Lib.hid (HD.out.later b)
  replace Y3 := Lib.hid (Y3.out.later b)
  replace Oo := Lib.hid (Oo.out.later b)
  have Y7 := Lib.hid (Blk.new xo 24 #[.int .i64 room, .slice Ao Lo.length co])
  have BB2a := Lib.hid (below_on BB2.out b)
  clear b
  have nn := dget_any room n Ao co Lo _ Oo.out
  rw [HFo.out, HR.out] at nn
  have NN := Lib.hid nn
  clear nn
  have cY70 := Y7.out.cell (i := 0) rfl
  have cY71 := Y7.out.cell (i := 1) rfl
  go_wp2_with fail
  refine NN.out.mono ?_
  clear NN
  rintro e xg ⟨v, rfl, ho, hb, b⟩
  obtain ⟨Ag, cg, rfl, hO⟩ := OneB.of_own ho hb
  clear cY70 cY71
  replace HD := Lib.hid (HD.out.later b)
  replace Y3 := Lib.hid (Y3.out.later b)
  replace Oo := Lib.hid (Oo.out.later b)
  replace Y7 := Lib.hid (Y7.out.later b)
  have Og := Lib.hid (hO)
  have BB3 := Lib.hid (below_on BB2a.out b)
  clear b hO ho hb
  have nn := rget_any room n A c L _ HD.out
  rw [HR.out] at nn
  have NN := Lib.hid nn
  clear nn
  have cY30 := Y3.out.cell (i := 0) rfl
  have cY31 := Y3.out.cell (i := 1) rfl
  go_wp2_with fail
  refine NN.out.mono ?_
  clear NN
  rintro e xr ⟨v, rfl, ho, hb, b⟩
  obtain ⟨Ar, cr, rfl, hO⟩ := OneB.of_own ho hb
  clear cY30 cY31
  replace HD := Lib.hid (HD.out.later b)
  replace Y3 := Lib.hid (Y3.out.later b)
  replace Oo := Lib.hid (Oo.out.later b)
  replace Y7 := Lib.hid (Y7.out.later b)
  replace Og := Lib.hid (Og.out.later b)
  have Or := Lib.hid (hO)
  have BB4 := Lib.hid (below_on BB3.out b)
  clear b hO ho hb
  have nn := dcutD_any room n m Ao co Lo _ Oo.out
  rw [HFo.out, HR2.out] at nn
  have NN := Lib.hid nn
  clear nn
  have cY70 := Y7.out.cell (i := 0) rfl
  have cY71 := Y7.out.cell (i := 1) rfl
  go_wp2_with fail
  refine NN.out.mono ?_
  clear NN
  intro e xp h
  obtain ⟨Ap, cp, Lp, rfl, hO, hf, b⟩ := h.open
  clear h
  clear cY70 cY71
  replace HD := Lib.hid (HD.out.later b)
  replace Y3 := Lib.hid (Y3.out.later b)
  replace Oo := Lib.hid (Oo.out.later b)
  replace Y7 := Lib.hid (Y7.out.later b)
  replace Og := Lib.hid (Og.out.later b)
  replace Or := Lib.hid (Or.out.later b)
  have Op := Lib.hid (hO.oneD)
  have HFp := Lib.hid hf
  have BB5 := Lib.hid (below_on BB4.out b)
  clear b hO hf
  have b := below_new (Below.refl xp.heap.size xp) (.cells #[.int .i64 rm, .slice Ap Lp.length cp] 24)
  replace HD := Lib.hid (HD.out.later b)
  replace Y3 := Lib.hid (Y3.out.later b)
  replace Oo := Lib.hid (Oo.out.later b)
  replace Y7 := Lib.hid (Y7.out.later b)
  replace Og := Lib.hid (Og.out.later b)
  replace Or := Lib.hid (Or.out.later b)
  replace Op := Lib.hid (Op.out.later b)
  have Y12 := Lib.hid (Blk.new xp 24 #[.int .i64 rm, .slice Ap Lp.length cp])
  have BB5a := Lib.hid (below_on BB5.out b)
  clear b
  have nn := rcutD_any room n m A c L _ HD.out
  rw [HR2.out] at nn
  have NN := Lib.hid nn
  clear nn
  have cY30 := Y3.out.cell (i := 0) rfl
  have cY31 := Y3.out.cell (i := 1) rfl
  go_wp2_with fail
  refine NN.out.mono ?_
  clear NN
  intro e xq h
  obtain ⟨Aq, cq, Lq, rfl, hO, hf, b⟩ := h.open
  clear h
  clear cY30 cY31
  replace HD := Lib.hid (HD.out.later b)
  replace Y3 := Lib.hid (Y3.out.later b)
  replace Oo := Lib.hid (Oo.out.later b)
  replace Y7 := Lib.hid (Y7.out.later b)
  replace Og := Lib.hid (Og.out.later b)
  replace Or := Lib.hid (Or.out.later b)
  replace Op := Lib.hid (Op.out.later b)
  replace Y12 := Lib.hid (Y12.out.later b)
  have Oq := Lib.hid (hO.oneD)
  have HFq := Lib.hid hf
  have BB6 := Lib.hid (below_on BB5a.out b)
  clear b hO hf
  have b := below_new (Below.refl xq.heap.size xq) (.cells #[.int .i64 rm, .slice Aq Lq.length cq] 24)
  replace HD := Lib.hid (HD.out.later b)
  replace Y3 := Lib.hid (Y3.out.later b)
  replace Oo := Lib.hid (Oo.out.later b)
  replace Y7 := Lib.hid (Y7.out.later b)
  replace Og := Lib.hid (Og.out.later b)
  replace Or := Lib.hid (Or.out.later b)
  replace Op := Lib.hid (Op.out.later b)
  replace Y12 := Lib.hid (Y12.out.later b)
  replace Oq := Lib.hid (Oq.out.later b)
  have Y14 := Lib.hid (Blk.new xq 24 #[.int .i64 rm, .slice Aq Lq.length cq])
  have BB6a := Lib.hid (below_on BB6.out b)
  clear b
  have nn := dremove_any room n Ao co Lo _ Oo.out
  rw [HFo.out, HR3.out] at nn
  have NN := Lib.hid nn
  clear nn
  have cY70 := Y7.out.cell (i := 0) rfl
  have cY71 := Y7.out.cell (i := 1) rfl
  go_wp2_with fail
  refine NN.out.mono ?_
  clear NN
  intro e xs h
  obtain ⟨As, cs, Ls, rfl, hO, hf, b⟩ := h.open
  clear h
  clear cY70 cY71
  replace HD := Lib.hid (HD.out.later b)
  replace Y3 := Lib.hid (Y3.out.later b)
  replace Oo := Lib.hid (Oo.out.later b)
  replace Y7 := Lib.hid (Y7.out.later b)
  replace Og := Lib.hid (Og.out.later b)
  replace Or := Lib.hid (Or.out.later b)
  replace Op := Lib.hid (Op.out.later b)
  replace Y12 := Lib.hid (Y12.out.later b)
  replace Oq := Lib.hid (Oq.out.later b)
  replace Y14 := Lib.hid (Y14.out.later b)
  have Os := Lib.hid (hO)
  have HFs := Lib.hid hf
  have BB7 := Lib.hid (below_on BB6a.out b)
  clear b hO hf
  have b := below_new (Below.refl xs.heap.size xs) (.cells #[.int .i64 rm2, .slice As Ls.length cs] 24)
  replace HD := Lib.hid (HD.out.later b)
  replace Y3 := Lib.hid (Y3.out.later b)
  replace Oo := Lib.hid (Oo.out.later b)
  replace Y7 := Lib.hid (Y7.out.later b)
  replace Og := Lib.hid (Og.out.later b)
  replace Or := Lib.hid (Or.out.later b)
  replace Op := Lib.hid (Op.out.later b)
  replace Y12 := Lib.hid (Y12.out.later b)
  replace Oq := Lib.hid (Oq.out.later b)
  replace Y14 := Lib.hid (Y14.out.later b)
  replace Os := Lib.hid (Os.out.later b)
  have Y16 := Lib.hid (Blk.new xs 24 #[.int .i64 rm2, .slice As Ls.length cs])
  have BB7a := Lib.hid (below_on BB7.out b)
  clear b
  have nn := rremove_any room n A c L _ HD.out
  rw [HR3.out] at nn
  have NN := Lib.hid nn
  clear nn
  have cY30 := Y3.out.cell (i := 0) rfl
  have cY31 := Y3.out.cell (i := 1) rfl
  go_wp2_with fail
  refine NN.out.mono ?_
  clear NN
  intro e xt h
  obtain ⟨At, ct, Lt, rfl, hO, hf, b⟩ := h.open
  clear h
  clear cY30 cY31
  replace HD := Lib.hid (HD.out.later b)
  replace Y3 := Lib.hid (Y3.out.later b)
  replace Oo := Lib.hid (Oo.out.later b)
  replace Y7 := Lib.hid (Y7.out.later b)
  replace Og := Lib.hid (Og.out.later b)
  replace Or := Lib.hid (Or.out.later b)
  replace Op := Lib.hid (Op.out.later b)
  replace Y12 := Lib.hid (Y12.out.later b)
  replace Oq := Lib.hid (Oq.out.later b)
  replace Y14 := Lib.hid (Y14.out.later b)
  replace Os := Lib.hid (Os.out.later b)
  replace Y16 := Lib.hid (Y16.out.later b)
  have Ot := Lib.hid (hO)
  have HFt := Lib.hid hf
  have BB8 := Lib.hid (below_on BB7a.out b)
  clear b hO hf
  have b := below_new (Below.refl xt.heap.size xt) (.cells #[.int .i64 rm2, .slice At Lt.length ct] 24)
  replace HD := Lib.hid (HD.out.later b)
  replace Y3 := Lib.hid (Y3.out.later b)
  replace Oo := Lib.hid (Oo.out.later b)
  replace Y7 := Lib.hid (Y7.out.later b)
  replace Og := Lib.hid (Og.out.later b)
  replace Or := Lib.hid (Or.out.later b)
  replace Op := Lib.hid (Op.out.later b)
  replace Y12 := Lib.hid (Y12.out.later b)
  replace Oq := Lib.hid (Oq.out.later b)
  replace Y14 := Lib.hid (Y14.out.later b)
  replace Os := Lib.hid (Os.out.later b)
  replace Y16 := Lib.hid (Y16.out.later b)
  replace Ot := Lib.hid (Ot.out.later b)
  have Y18 := Lib.hid (Blk.new xt 24 #[.int .i64 rm2, .slice At Lt.length ct])
  have BB8a := Lib.hid (below_on BB8.out b)
  clear b
  have nn := bsame_any Ag Ar cg cr bs bs _ Og.out Or.out
  rw [decide_eq_true rfl] at nn
  have NN := Lib.hid nn
  clear nn
  go_wp2_with fail
  refine NN.out.mono ?_
  clear NN
  rintro e x9 ⟨rfl, b⟩
  replace HD := Lib.hid (HD.out.later b)
  replace Y3 := Lib.hid (Y3.out.later b)
  replace Oo := Lib.hid (Oo.out.later b)
  replace Y7 := Lib.hid (Y7.out.later b)
  replace Og := Lib.hid (Og.out.later b)
  replace Or := Lib.hid (Or.out.later b)
  replace Op := Lib.hid (Op.out.later b)
  replace Y12 := Lib.hid (Y12.out.later b)
  replace Oq := Lib.hid (Oq.out.later b)
  replace Y14 := Lib.hid (Y14.out.later b)
  replace Os := Lib.hid (Os.out.later b)
  replace Y16 := Lib.hid (Y16.out.later b)
  replace Ot := Lib.hid (Ot.out.later b)
  replace Y18 := Lib.hid (Y18.out.later b)
  have BB9 := Lib.hid (below_on BB8a.out b)
  clear b
  have nn := rsameD_any rm rm Ap Aq cp cq Lp Lq _ Op.out Oq.out
  rw [decide_eq_true (show rm = rm ∧ Lp.map Fc.fi = Lq.map Fc.fi from ⟨rfl, by rw [HFp.out, HFq.out]⟩)] at nn
  have NN := Lib.hid nn
  clear nn
  have cY120 := Y12.out.cell (i := 0) rfl
  have cY121 := Y12.out.cell (i := 1) rfl
  have cY140 := Y14.out.cell (i := 0) rfl
  have cY141 := Y14.out.cell (i := 1) rfl
  go_wp2_with fail
  refine NN.out.mono ?_
  clear NN
  rintro e x10 ⟨rfl, b⟩
  clear cY120 cY121 cY140 cY141
  replace HD := Lib.hid (HD.out.later b)
  replace Y3 := Lib.hid (Y3.out.later b)
  replace Oo := Lib.hid (Oo.out.later b)
  replace Y7 := Lib.hid (Y7.out.later b)
  replace Og := Lib.hid (Og.out.later b)
  replace Or := Lib.hid (Or.out.later b)
  replace Op := Lib.hid (Op.out.later b)
  replace Y12 := Lib.hid (Y12.out.later b)
  replace Oq := Lib.hid (Oq.out.later b)
  replace Y14 := Lib.hid (Y14.out.later b)
  replace Os := Lib.hid (Os.out.later b)
  replace Y16 := Lib.hid (Y16.out.later b)
  replace Ot := Lib.hid (Ot.out.later b)
  replace Y18 := Lib.hid (Y18.out.later b)
  have BB10 := Lib.hid (below_on BB9.out b)
  clear b
  have nn := rsameD_any rm2 rm2 As At cs ct Ls Lt _ Os.out Ot.out
  rw [decide_eq_true (show rm2 = rm2 ∧ Ls.map Fc.fi = Lt.map Fc.fi from ⟨rfl, by rw [HFs.out, HFt.out]⟩)] at nn
  have NN := Lib.hid nn
  clear nn
  have cY160 := Y16.out.cell (i := 0) rfl
  have cY161 := Y16.out.cell (i := 1) rfl
  have cY180 := Y18.out.cell (i := 0) rfl
  have cY181 := Y18.out.cell (i := 1) rfl
  go_wp2_with fail
  refine NN.out.mono ?_
  clear NN
  rintro e x11 ⟨rfl, b⟩
  clear cY160 cY161 cY180 cY181
  replace HD := Lib.hid (HD.out.later b)
  replace Y3 := Lib.hid (Y3.out.later b)
  replace Oo := Lib.hid (Oo.out.later b)
  replace Y7 := Lib.hid (Y7.out.later b)
  replace Og := Lib.hid (Og.out.later b)
  replace Or := Lib.hid (Or.out.later b)
  replace Op := Lib.hid (Op.out.later b)
  replace Y12 := Lib.hid (Y12.out.later b)
  replace Oq := Lib.hid (Oq.out.later b)
  replace Y14 := Lib.hid (Y14.out.later b)
  replace Os := Lib.hid (Os.out.later b)
  replace Y16 := Lib.hid (Y16.out.later b)
  replace Ot := Lib.hid (Ot.out.later b)
  replace Y18 := Lib.hid (Y18.out.later b)
  have BB11 := Lib.hid (below_on BB10.out b)
  clear b
  have nn := rsameD_any room room Ao A co c Lo L _ Oo.out HD.out
  rw [decide_eq_true (show room = room ∧ Lo.map Fc.fi = L.map Fc.fi from ⟨rfl, HFo.out⟩)] at nn
  have NN := Lib.hid nn
  clear nn
  have cY70 := Y7.out.cell (i := 0) rfl
  have cY71 := Y7.out.cell (i := 1) rfl
  have cY30 := Y3.out.cell (i := 0) rfl
  have cY31 := Y3.out.cell (i := 1) rfl
  go_wp2_with fail
  refine NN.out.mono ?_
  clear NN
  rintro e x12 ⟨rfl, b⟩
  clear cY70 cY71 cY30 cY31
  replace HD := Lib.hid (HD.out.later b)
  replace Y3 := Lib.hid (Y3.out.later b)
  replace Oo := Lib.hid (Oo.out.later b)
  replace Y7 := Lib.hid (Y7.out.later b)
  replace Og := Lib.hid (Og.out.later b)
  replace Or := Lib.hid (Or.out.later b)
  replace Op := Lib.hid (Op.out.later b)
  replace Y12 := Lib.hid (Y12.out.later b)
  replace Oq := Lib.hid (Oq.out.later b)
  replace Y14 := Lib.hid (Y14.out.later b)
  replace Os := Lib.hid (Os.out.later b)
  replace Y16 := Lib.hid (Y16.out.later b)
  replace Ot := Lib.hid (Ot.out.later b)
  replace Y18 := Lib.hid (Y18.out.later b)
  have BB12 := Lib.hid (below_on BB11.out b)
  clear b
  go_wp2
  go_ret
  exact ⟨rfl, BB12.out⟩

set_option maxRecDepth 100000 in
set_option maxHeartbeats 6400000 in
theorem lawDiskAppends_any (room n : Int) (A B : Option Addr) (c cb : Nat) (L : List Fc) (b : List Int) (w : World) (h : OneD w A c L) (hf : Fit L) (hb : OneB w B cb b) :
    Calls Try.prog 3 #[.agg #[.int .i64 room, .slice A L.length c], .int .i64 n, .slice B b.length cb] w (Says (.bool true) w) := by
  obtain ⟨⟨rm, fs, k⟩, hR⟩ : ∃ r, Dk.appR room (L.map Fc.fi) n b = r := ⟨_, rfl⟩
  obtain ⟨q, hQ⟩ : ∃ q, Dk.fmd room (L.map Fc.fi) = q := ⟨_, rfl⟩
  obtain ⟨u, hU⟩ : ∃ u, Dk.usd room (L.map Fc.fi) = u := ⟨_, rfl⟩
  have HR := Lib.hid hR; have HQ := Lib.hid hQ; have HU := Lib.hid hU
  clear hR hQ hU
  have hbl := hb.len
  have b0 := below_new (Below.refl w.heap.size w) (.cells #[.int .i64 room, .slice A L.length c] 24)
  have HBB := Lib.hid (hb.later b0)
  clear b0 hb
  have bz := below_new (Below.refl w.heap.size w) (.cells #[.int .i64 room, .slice A L.length c] 24)
  have HD := Lib.hid (h.later bz)
  have Y3 := Lib.hid (Blk.new w 24 #[.int .i64 room, .slice A L.length c])
  have HFT := Lib.hid hf
  have BB0 := Lib.hid bz
  clear bz h hf
  go_enter Try.func3, Try.ntmps3
  have nn := dalive_any (w.alloc (.cells #[.int .i64 room, .slice A L.length c] 24))
  have NN := Lib.hid nn
  clear nn
  go_wp2_with fail
  refine NN.out.mono ?_
  clear NN
  rintro e x1 ⟨rfl, bz⟩
  replace HBB := Lib.hid (HBB.out.later bz)
  replace HD := Lib.hid (HD.out.later bz)
  replace Y3 := Lib.hid (Y3.out.later bz)
  have BB1 := Lib.hid (below_on BB0.out bz)
  clear bz
  have nn := rcopyD_any room A c L _ HD.out HFT.out
  have NN := Lib.hid nn
  clear nn
  have cY30 := Y3.out.cell (i := 0) rfl
  have cY31 := Y3.out.cell (i := 1) rfl
  go_wp2_with fail
  refine NN.out.mono ?_
  clear NN
  rintro e xo ⟨v, Lo, rfl, hO, hf, bz⟩
  obtain ⟨Ao, co, rfl, -⟩ := hO.one
  clear cY30 cY31
  replace HBB := Lib.hid (HBB.out.later bz)
  replace HD := Lib.hid (HD.out.later bz)
  replace Y3 := Lib.hid (Y3.out.later bz)
  have Oo := Lib.hid (hO.oneD)
  have HFo := Lib.hid hf
  have BB2 := Lib.hid (below_on BB1.out bz)
  clear bz hO hf
  have bz := below_new (Below.refl xo.heap.size xo) (.cells #[.int .i64 room, .slice Ao Lo.length co] 24)
  replace HBB := Lib.hid (HBB.out.later bz)
  replace HD := Lib.hid (HD.out.later bz)
  replace Y3 := Lib.hid (Y3.out.later bz)
  replace Oo := Lib.hid (Oo.out.later bz)
  have Y7 := Lib.hid (Blk.new xo 24 #[.int .i64 room, .slice Ao Lo.length co])
  have BB2a := Lib.hid (below_on BB2.out bz)
  clear bz
  have nn := dappend_any room n Ao B co cb Lo b _ Oo.out HBB.out
  rw [HFo.out, HR.out] at nn
  have NN := Lib.hid nn
  clear nn
  have cY70 := Y7.out.cell (i := 0) rfl
  have cY71 := Y7.out.cell (i := 1) rfl
  go_wp2_with fail
  refine NN.out.mono ?_
  clear NN
  intro e xp h
  obtain ⟨Ap, cp, Lp, rfl, hO, hf, bz⟩ := h.open
  clear h
  clear cY70 cY71
  replace HBB := Lib.hid (HBB.out.later bz)
  replace HD := Lib.hid (HD.out.later bz)
  replace Y3 := Lib.hid (Y3.out.later bz)
  replace Oo := Lib.hid (Oo.out.later bz)
  replace Y7 := Lib.hid (Y7.out.later bz)
  have Op := Lib.hid (hO.oneD)
  have HFp := Lib.hid hf
  have BB3 := Lib.hid (below_on BB2a.out bz)
  clear bz hO hf
  have bz := below_new (Below.refl xp.heap.size xp) (.cells #[.int .i64 rm, .slice Ap Lp.length cp] 24)
  replace HBB := Lib.hid (HBB.out.later bz)
  replace HD := Lib.hid (HD.out.later bz)
  replace Y3 := Lib.hid (Y3.out.later bz)
  replace Oo := Lib.hid (Oo.out.later bz)
  replace Y7 := Lib.hid (Y7.out.later bz)
  replace Op := Lib.hid (Op.out.later bz)
  have Y8 := Lib.hid (Blk.new xp 24 #[.int .i64 rm, .slice Ap Lp.length cp])
  have BB3a := Lib.hid (below_on BB3.out bz)
  clear bz
  have nn := rappend_any room n A B c cb L b _ HD.out HBB.out
  rw [HR.out] at nn
  have NN := Lib.hid nn
  clear nn
  have cY30 := Y3.out.cell (i := 0) rfl
  have cY31 := Y3.out.cell (i := 1) rfl
  go_wp2_with fail
  refine NN.out.mono ?_
  clear NN
  intro e xq h
  obtain ⟨Aq, cq, Lq, rfl, hO, hf, bz⟩ := h.open
  clear h
  clear cY30 cY31
  replace HBB := Lib.hid (HBB.out.later bz)
  replace HD := Lib.hid (HD.out.later bz)
  replace Y3 := Lib.hid (Y3.out.later bz)
  replace Oo := Lib.hid (Oo.out.later bz)
  replace Y7 := Lib.hid (Y7.out.later bz)
  replace Op := Lib.hid (Op.out.later bz)
  replace Y8 := Lib.hid (Y8.out.later bz)
  have Oq := Lib.hid (hO.oneD)
  have HFq := Lib.hid hf
  have BB4 := Lib.hid (below_on BB3a.out bz)
  clear bz hO hf
  have bz := below_new (Below.refl xq.heap.size xq) (.cells #[.int .i64 rm, .slice Aq Lq.length cq] 24)
  replace HBB := Lib.hid (HBB.out.later bz)
  replace HD := Lib.hid (HD.out.later bz)
  replace Y3 := Lib.hid (Y3.out.later bz)
  replace Oo := Lib.hid (Oo.out.later bz)
  replace Y7 := Lib.hid (Y7.out.later bz)
  replace Op := Lib.hid (Op.out.later bz)
  replace Y8 := Lib.hid (Y8.out.later bz)
  replace Oq := Lib.hid (Oq.out.later bz)
  have Y10 := Lib.hid (Blk.new xq 24 #[.int .i64 rm, .slice Aq Lq.length cq])
  have BB4a := Lib.hid (below_on BB4.out bz)
  clear bz
  have hs1 := fun d os => Lib.hid (Calls.regrown_of (rsameD_any rm rm Ap Aq cp cq Lp Lq (Sort.grow (redrawn (xq.alloc (.cells #[.int .i64 rm, .slice Aq Lq.length cq] 24)) d) os) (Op.out.later (below_regrown (xq.alloc (.cells #[.int .i64 rm, .slice Aq Lq.length cq] 24)) d os)) (Oq.out.later (below_regrown (xq.alloc (.cells #[.int .i64 rm, .slice Aq Lq.length cq] 24)) d os))))
  rw [decide_eq_true (show rm = rm ∧ Lp.map Fc.fi = Lq.map Fc.fi from ⟨rfl, by rw [HFp.out, HFq.out]⟩)] at hs1
  have hs2 := fun d os => Lib.hid (Calls.regrown_of (rsameD_any room room Ao A co c Lo L (Sort.grow (redrawn (xq.alloc (.cells #[.int .i64 rm, .slice Aq Lq.length cq] 24)) d) os) (Oo.out.later (below_regrown (xq.alloc (.cells #[.int .i64 rm, .slice Aq Lq.length cq] 24)) d os)) (HD.out.later (below_regrown (xq.alloc (.cells #[.int .i64 rm, .slice Aq Lq.length cq] 24)) d os))))
  rw [decide_eq_true (show room = room ∧ Lo.map Fc.fi = L.map Fc.fi from ⟨rfl, HFo.out⟩)] at hs2
  have hs3 := fun d os => Lib.hid (Calls.regrown_of (dformed_any room A c L (Sort.grow (redrawn (xq.alloc (.cells #[.int .i64 rm, .slice Aq Lq.length cq] 24)) d) os) (HD.out.later (below_regrown (xq.alloc (.cells #[.int .i64 rm, .slice Aq Lq.length cq] 24)) d os))))
  have hs4 := fun d os => Lib.hid (Calls.regrown_of (rformed_any room A c L (Sort.grow (redrawn (xq.alloc (.cells #[.int .i64 rm, .slice Aq Lq.length cq] 24)) d) os) (HD.out.later (below_regrown (xq.alloc (.cells #[.int .i64 rm, .slice Aq Lq.length cq] 24)) d os))))
  have hs5 := fun d os => Lib.hid (Calls.regrown_of (dused_any room A c L (Sort.grow (redrawn (xq.alloc (.cells #[.int .i64 rm, .slice Aq Lq.length cq] 24)) d) os) (HD.out.later (below_regrown (xq.alloc (.cells #[.int .i64 rm, .slice Aq Lq.length cq] 24)) d os))))
  have hs6 := fun d os => Lib.hid (Calls.regrown_of (rused_any rformed_any room A c L (Sort.grow (redrawn (xq.alloc (.cells #[.int .i64 rm, .slice Aq Lq.length cq] 24)) d) os) (HD.out.later (below_regrown (xq.alloc (.cells #[.int .i64 rm, .slice Aq Lq.length cq] 24)) d os))))
  rw [HQ.out] at hs3 hs4
  rw [HU.out] at hs5 hs6
  have k30 := fun d os => cell_regrown (d := d) (os := os) (Y3.out.cell (i := 0) rfl)
  have k31 := fun d os => cell_regrown (d := d) (os := os) (Y3.out.cell (i := 1) rfl)
  have k70 := fun d os => cell_regrown (d := d) (os := os) (Y7.out.cell (i := 0) rfl)
  have k71 := fun d os => cell_regrown (d := d) (os := os) (Y7.out.cell (i := 1) rfl)
  have k80 := fun d os => cell_regrown (d := d) (os := os) (Y8.out.cell (i := 0) rfl)
  have k81 := fun d os => cell_regrown (d := d) (os := os) (Y8.out.cell (i := 1) rfl)
  have k100 := fun d os => cell_regrown (d := d) (os := os) (Y10.out.cell (i := 0) rfl)
  have k101 := fun d os => cell_regrown (d := d) (os := os) (Y10.out.cell (i := 1) rfl)
  go_wp2_with fail
  refine wp_region_quiet_below (by kernel_rfl) (by kernel_rfl) ?_
  repeat (first | go_big_quiet_step (first | with_reducible exact (hs1 _ _).out | with_reducible exact (hs2 _ _).out | with_reducible exact (hs3 _ _).out | with_reducible exact (hs4 _ _).out | with_reducible exact (hs5 _ _).out | with_reducible exact (hs6 _ _).out) | quiet_step (first | with_reducible exact (hs1 _ _).out | with_reducible exact (hs2 _ _).out | with_reducible exact (hs3 _ _).out | with_reducible exact (hs4 _ _).out | with_reducible exact (hs5 _ _).out | with_reducible exact (hs6 _ _).out))
  refine wpQuiet_nil ?_
  intro _ hw'
  obtain ⟨⟨dq, osq⟩, hw''⟩ := hw'
  subst hw''
  have bq := below_regrown (xq.alloc (.cells #[.int .i64 rm, .slice Aq Lq.length cq] 24)) dq osq
  have BQ := Lib.hid (below_on BB4a.out bq)
  clear hs1 hs2 hs3 hs4 hs5 hs6 k30 k31 k70 k71 k80 k81 k100 k101 bq
  go_wp2
  go_ret
  exact ⟨rfl, BQ.out⟩
end Go.Proofs.Ytgjcpdcepmgafaa
