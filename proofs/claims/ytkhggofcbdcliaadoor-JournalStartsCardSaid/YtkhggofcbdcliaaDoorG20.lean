/-
  What journal's begun, Start, Append, Drop answer.
  What journal's Drop answers.
  What the law DiskSure keeps beside the disk, as plain mathematics: all that was appended to each of four files, and what of it was synced.
  Scanning a journal, as plain mathematics; rows of rows of bytes, one behind the other.
-/
import Derived.Test.YtkhggofcbdcliaaDoorG19
import Derived.Test.YtkhggofcbdcliaaDoorG13
import Derived.Test.YtkhggofcbdcliaaDoorG14
import Derived.Test.YtkhggofcbdcliaaDoorG16
import Derived.Test.YtkhggofcbdcliaaDoorG12
import Derived.Test.YtkhggofcbdcliaaDoorG17
namespace Go.Proofs.YtkhggofcbdcliaaDoor
open Go.RowKit

namespace Jn
/-- A disk with a new segment, which a frame begins. -/
def begR (room : Int) (fs : List Fi) (f : List Int) : Dk.Ans3 := if Dk.fmd room fs = true then (if lastR room fs = 1048576 then (0, [], 15) else Dk.appR room (fs.map Dk.syn1) ((if lastR room fs < 0 then 0 else lastR room fs) + 1) f) else (0, [], 1)
theorem beg_start (room : Int) (fs : List Fi) {p : List Int} (hp : p.length ≤ 1048576) : begR room fs (Fr.frm p) = startR room fs p := by
  unfold begR startR
  by_cases h : Dk.fmd room fs = true
  · rw [if_pos h, if_pos (⟨h, hp⟩ : Dk.fmd room fs = true ∧ p.length ≤ 1048576)]
  · rw [if_neg h, if_neg (fun x => h x.1)]
end Jn
theorem fits_fresh {room : Int} {L : List Fc} {p : List Int} (h : Dk.fmd room (L.map Fc.fi) = true) (hp : p.length ≤ 1048576) : fitsV L (Fr.frm p).length = !Jn.fresh (L.map Fc.fi) p := by
  unfold fitsV Jn.fresh
  rw [List.getLast?_map]
  cases hl : L.getLast? with
  | none => rfl
  | some x =>
    have hx := List.mem_of_getLast? hl
    have h1 := Dk.used_mem (List.mem_map.2 ⟨x, hx, rfl⟩ : x.fi ∈ L.map Fc.fi)
    have h2 := (Dk.fmd_facts h).use
    have h3 := (Dk.fmd_facts h).r1
    have h4 : (x.fi.2.1.length : Int) = (x.l.length : Int) := rfl
    have hf := Fr.seal_len p
    show (decide (x.l.length = 0) || decide (wrap64 ((x.l.length : Int) + ((Fr.frm p).length : Int)) ≤ 512)) = !decide (0 < x.l.length ∧ 512 < x.l.length + p.length + 8)
    rw [IntWalk.wrap64_in _ ⟨by omega, by omega⟩, Bool.eq_iff_iff]
    simp only [Bool.or_eq_true, decide_eq_true_eq, Bool.not_eq_true', decide_eq_false_iff_not]
    omega
theorem GivesDE.nil_of {k : Int} {w w' : World} {e : Ending} (h : GivesDE (0, [], k) w e w') : ∃ A c, e = .returned (.tuple #[.agg #[.int .i64 0, .slice A 0 c], .int .i64 k]) ∧ Below w.heap.size w w' := by
  obtain ⟨A, c, L, h1, h2, h3, h4⟩ := h.open
  have hL : L = [] := by cases L with | nil => rfl | cons a r => cases h3
  subst hL
  exact ⟨A, c, h1, h4⟩

set_option maxRecDepth 100000 in
set_option maxHeartbeats 6400000 in
theorem dbegun_any (room : Int) (A B : Option Addr) (c cb : Nat) (L : List Fc) (f : List Int) (w : World) (h : OneD w A c L) (hb : OneB w B cb f) :
    Calls Tryd.prog 29 #[.agg #[.int .i64 room, .slice A L.length c], .slice B f.length cb] w (GivesDE (Jn.begR room (L.map Fc.fi) f) w) := by
  have bn := below_new (below_new (Below.refl w.heap.size w) (.cells #[.int .i64 room, .slice A L.length c] 24)) (.cells #[.int .i64 0, .slice none 0 0] 24)
  have B0 := Lib.hid ((Blk.new w 24 #[.int .i64 room, .slice A L.length c]).alloc (.cells #[.int .i64 0, .slice none 0 0] 24))
  have B1 := Lib.hid (show Blk _ (w.heap.size + 1) 24 #[.int .i64 0, .slice none 0 0] from by simpa using Blk.new (w.alloc (.cells #[.int .i64 room, .slice A L.length c] 24)) 24 #[.int .i64 0, .slice none 0 0])
  have SY := dsync_any room A c L _ (h.later bn)
  have HD := Lib.hid h
  have HBB := Lib.hid hb
  have hbl := hb.len
  have hlen := h.len
  have BN := Lib.hid bn
  clear h hb bn
  cases hq : Dk.fmd room (L.map Fc.fi) with
  | false =>
    have hR : Jn.begR room (L.map Fc.fi) f = (0, [], 1) := by unfold Jn.begR; rw [if_neg (by rw [hq]; exact Bool.false_ne_true)]
    have hLR : Jn.lastR room (L.map Fc.fi) = -1 := by unfold Jn.lastR; rw [if_neg (by rw [hq]; exact Bool.false_ne_true)]
    rw [hR]
    rw [show Dk.synR room (L.map Fc.fi) = (0, [], 1) from by unfold Dk.synR; rw [if_neg (by rw [hq]; exact Bool.false_ne_true)]] at SY
    have NN := Lib.hid SY
    have HLR := Lib.hid hLR
    clear hq hR hLR SY
    go_enter Tryd.func29, Tryd.ntmps29
    go_wp2_with fail
    refine NN.out.mono ?_
    intro e w1 h
    obtain ⟨A4, c4, rfl, b1⟩ := h.nil_of
    have bs := below_new (Below.refl w1.heap.size w1) (.cells #[.int .i64 0, .slice A4 0 c4] 24)
    have BB := Lib.hid (below_on (below_on BN.out b1) bs)
    have hB0 := Lib.hid ((B0.out.later b1).later bs)
    have hB1 := Lib.hid ((B1.out.later b1).later bs)
    have LA := dlast_any room A c L _ (HD.out.later BB.out)
    rw [HLR.out] at LA
    have LL := Lib.hid LA
    have c0 := hB0.out.cell (i := 0) rfl
    have c1 := hB0.out.cell (i := 1) rfl
    clear h b1 bs LA NN B0 B1 BN
    obtain ⟨W1, hW1⟩ : ∃ W1, w1.alloc (.cells #[.int .i64 0, .slice A4 0 c4] 24) = W1 := ⟨_, rfl⟩
    rw [hW1] at BB hB0 hB1 LL c0 c1
    go_upto_region 2 with (fail)
    try rw [hW1]
    clear hW1
    go_wp2_with fail
    refine LL.out.mono ?_
    rintro e w2 ⟨rfl, b2⟩
    have bb2 := below_on BB.out b2
    have hB12 := hB1.out.later b2
    clear c0 c1 b2 LL hB0
    have z' := hB12
    have y0 := z'.cell (i := 0) rfl
    have y1 := z'.cell (i := 1) rfl
    have s0 := z'.free 0
    have s1 := z'.free 1
    have hz := (z'.put 0 (.int .i64 0)).put 1 (.slice none 0 0)
    have z0 := Lib.hid (hz.cell (i := 0) rfl)
    have z1 := Lib.hid (hz.cell (i := 1) rfl)
    have hbz := ((bb2).setCell (p := ⟨w.heap.size + 1, 0, none⟩) (by show w.heap.size ≤ w.heap.size + 1; omega) (.int .i64 0)).setCell (p := ⟨w.heap.size + 1, 1, none⟩) (by show w.heap.size ≤ w.heap.size + 1; omega) (.slice none 0 0)
    have FIN := Lib.hid (GivesDE.err 1 hbz)
    clear z' hz hbz hB12
    go_wp2
    have z0 := z0.out
    have z1 := z1.out
    exact bodyPost_ret (v := .tuple #[.agg #[.int .i64 0, .slice none 0 0], .int .i64 1]) (by simp [results, Tryd.results29, go_sem, z0, z1]) rfl FIN.out
  | true =>
    rw [show Dk.synR room (L.map Fc.fi) = (room, (L.map Fc.fi).map Dk.syn1, 0) from by unfold Dk.synR; rw [if_pos hq]] at SY
    have NN := Lib.hid SY
    obtain ⟨n, hn⟩ : ∃ n, Jn.lastR room (L.map Fc.fi) = n := ⟨_, rfl⟩
    have hn0 : -1 ≤ n ∧ n ≤ 1048576 := by rw [← hn]; exact Jn.last_le
    have hn1 := hn0.1
    have hn2 := hn0.2
    have HN := Lib.hid hn
    have HQ := Lib.hid hq
    clear hn hq hn0 SY
    by_cases hm : n = 1048576
    · have hR : Jn.begR room (L.map Fc.fi) f = (0, [], 15) := by unfold Jn.begR; rw [if_pos HQ.out, if_pos (by rw [HN.out]; exact hm)]
      rw [hR]
      subst hm
      clear hR
      go_enter Tryd.func29, Tryd.ntmps29
      go_wp2_with fail
      refine NN.out.mono ?_
      intro e w1 h
      obtain ⟨A4, c4, L4, rfl, hO4, hf4, b1⟩ := h.open
      have bs := below_new (Below.refl w1.heap.size w1) (.cells #[.int .i64 room, .slice A4 L4.length c4] 24)
      have BB := Lib.hid (below_on (below_on BN.out b1) bs)
      have hB0 := Lib.hid ((B0.out.later b1).later bs)
      have hB1 := Lib.hid ((B1.out.later b1).later bs)
      have S4 := Lib.hid (Blk.new w1 24 #[.int .i64 room, .slice A4 L4.length c4])
      have O4 := Lib.hid (hO4.oneD.later bs)
      have F4 := Lib.hid hf4
      have LA := dlast_any room A c L _ (HD.out.later BB.out)
      rw [HN.out] at LA
      have LL := Lib.hid LA
      have c0 := hB0.out.cell (i := 0) rfl
      have c1 := hB0.out.cell (i := 1) rfl
      clear h b1 bs LA NN B0 B1 BN hO4 hf4
      obtain ⟨W1, hW1⟩ : ∃ W1, w1.alloc (.cells #[.int .i64 room, .slice A4 L4.length c4] 24) = W1 := ⟨_, rfl⟩
      rw [hW1] at BB hB0 hB1 LL c0 c1 S4 O4
      go_upto_region 2 with (fail)
      try rw [hW1]
      clear hW1
      go_wp2_with fail
      refine LL.out.mono ?_
      rintro e w2 ⟨rfl, b2⟩
      have bb2 := below_on BB.out b2
      have hB12 := hB1.out.later b2
      clear c0 c1 b2 LL hB0
      have z' := hB12
      have y0 := z'.cell (i := 0) rfl
      have y1 := z'.cell (i := 1) rfl
      have s0 := z'.free 0
      have s1 := z'.free 1
      have hz := (z'.put 0 (.int .i64 0)).put 1 (.slice none 0 0)
      have z0 := Lib.hid (hz.cell (i := 0) rfl)
      have z1 := Lib.hid (hz.cell (i := 1) rfl)
      have hbz := ((bb2).setCell (p := ⟨w.heap.size + 1, 0, none⟩) (by show w.heap.size ≤ w.heap.size + 1; omega) (.int .i64 0)).setCell (p := ⟨w.heap.size + 1, 1, none⟩) (by show w.heap.size ≤ w.heap.size + 1; omega) (.slice none 0 0)
      have FIN := Lib.hid (GivesDE.err 15 hbz)
      clear z' hz hbz hB12
      go_wp2
      have z0 := z0.out
      have z1 := z1.out
      exact bodyPost_ret (v := .tuple #[.agg #[.int .i64 0, .slice none 0 0], .int .i64 15]) (by simp [results, Tryd.results29, go_sem, z0, z1]) rfl FIN.out
    · by_cases hneg : n < 0
      · have hR : Jn.begR room (L.map Fc.fi) f = Dk.appR room ((L.map Fc.fi).map Dk.syn1) (0 + 1) f := by unfold Jn.begR; rw [if_pos HQ.out, if_neg (by rw [HN.out]; exact hm), HN.out, if_pos hneg]
        rw [hR]
        clear hR
        obtain ⟨⟨rm, fs2, kr⟩, hA⟩ : ∃ r, Dk.appR room ((L.map Fc.fi).map Dk.syn1) (0 + 1) f = r := ⟨_, rfl⟩
        rw [hA]
        have HA := Lib.hid hA
        clear hA
        have dm : decide (n = 1048576) = false := decide_eq_false hm
        have dm2 : (n == 1048576) = false := by rw [beq_eq_false_iff_ne]; exact hm
        have dn : decide (n < 0) = true := decide_eq_true hneg
        have mx : max n 0 = 0 := by omega
        go_enter Tryd.func29, Tryd.ntmps29
        go_wp2_with fail
        refine NN.out.mono ?_
        intro e w1 h
        obtain ⟨A4, c4, L4, rfl, hO4, hf4, b1⟩ := h.open
        have bs := below_new (Below.refl w1.heap.size w1) (.cells #[.int .i64 room, .slice A4 L4.length c4] 24)
        have BB := Lib.hid (below_on (below_on BN.out b1) bs)
        have hB0 := Lib.hid ((B0.out.later b1).later bs)
        have hB1 := Lib.hid ((B1.out.later b1).later bs)
        have S4 := Lib.hid (Blk.new w1 24 #[.int .i64 room, .slice A4 L4.length c4])
        have O4 := Lib.hid (hO4.oneD.later bs)
        have F4 := Lib.hid hf4
        have LA := dlast_any room A c L _ (HD.out.later BB.out)
        rw [HN.out] at LA
        have LL := Lib.hid LA
        have c0 := hB0.out.cell (i := 0) rfl
        have c1 := hB0.out.cell (i := 1) rfl
        clear h b1 bs LA NN B0 B1 BN hO4 hf4
        obtain ⟨W1, hW1⟩ : ∃ W1, w1.alloc (.cells #[.int .i64 room, .slice A4 L4.length c4] 24) = W1 := ⟨_, rfl⟩
        rw [hW1] at BB hB0 hB1 LL c0 c1 S4 O4
        go_upto_region 2 with (fail)
        try rw [hW1]
        clear hW1
        go_wp2_with fail
        refine LL.out.mono ?_
        rintro e w2 ⟨rfl, b2⟩
        have BB2 := Lib.hid (below_on BB.out b2)
        have hB12 := Lib.hid (hB1.out.later b2)
        have S42 := Lib.hid (S4.out.later b2)
        have RA := dappend_any room (0 + 1) A4 B c4 cb L4 f _ (O4.out.later b2) (HBB.out.later BB2.out)
        rw [F4.out, HA.out] at RA
        have RR := Lib.hid RA
        clear c0 c1 b2 LL hB0 BB S4 O4 RA hB1
        have c0 := S42.out.cell (i := 0) rfl
        have c1 := S42.out.cell (i := 1) rfl
        go_wp2_with fail
        refine RR.out.mono ?_
        intro e w5 h
        obtain ⟨A5, c5, L5, rfl, hO5, hf5, b5⟩ := h.open
        have BB5 := Lib.hid (below_on BB2.out b5)
        have hB5 := Lib.hid (hB12.out.later b5)
        have hsz5 : w.heap.size + 1 < w2.heap.size := hB12.out.lt
        clear h b5 RR c0 c1 BB2
        have z' := hB5.out
        have y0 := z'.cell (i := 0) rfl
        have y1 := z'.cell (i := 1) rfl
        have s0 := z'.free 0
        have s1 := z'.free 1
        have hz := (z'.put 0 (.int .i64 rm)).put 1 (.slice A5 L5.length c5)
        have z0 := Lib.hid (hz.cell (i := 0) rfl)
        have z1 := Lib.hid (hz.cell (i := 1) rfl)
        have hbz := ((BB5.out).setCell (p := ⟨w.heap.size + 1, 0, none⟩) (by show w.heap.size ≤ w.heap.size + 1; omega) (.int .i64 rm)).setCell (p := ⟨w.heap.size + 1, 1, none⟩) (by show w.heap.size ≤ w.heap.size + 1; omega) (.slice A5 L5.length c5)
        have hO2 := (((hO5).low (p := ⟨w.heap.size + 1, 0, none⟩) (by show w.heap.size + 1 < _; omega) (.int .i64 rm)).low (p := ⟨w.heap.size + 1, 1, none⟩) (by show w.heap.size + 1 < _; omega) (.slice A5 L5.length c5)).lower (base' := w.heap.size) (by omega)
        have FIN := Lib.hid (show GivesDE (rm, fs2, kr) w (.returned (.tuple #[.agg #[.int .i64 rm, .slice A5 L5.length c5], .int .i64 kr])) _ from ⟨_, L5, rfl, hO2, hf5, hbz⟩)
        clear z' hz hbz hO5 hf5 hO2
        go_wp2
        have z0 := z0.out
        have z1 := z1.out
        exact bodyPost_ret (v := .tuple #[.agg #[.int .i64 rm, .slice A5 L5.length c5], .int .i64 kr]) (by simp [results, Tryd.results29, go_sem, z0, z1]) rfl FIN.out
      · have hR : Jn.begR room (L.map Fc.fi) f = Dk.appR room ((L.map Fc.fi).map Dk.syn1) (n + 1) f := by unfold Jn.begR; rw [if_pos HQ.out, if_neg (by rw [HN.out]; exact hm), HN.out, if_neg hneg]
        rw [hR]
        clear hR
        obtain ⟨⟨rm, fs2, kr⟩, hA⟩ : ∃ r, Dk.appR room ((L.map Fc.fi).map Dk.syn1) (n + 1) f = r := ⟨_, rfl⟩
        rw [hA]
        have HA := Lib.hid hA
        clear hA
        have dm : decide (n = 1048576) = false := decide_eq_false hm
        have dm2 : (n == 1048576) = false := by rw [beq_eq_false_iff_ne]; exact hm
        have dn : decide (n < 0) = false := decide_eq_false hneg
        have mx : max n 0 = n := by omega
        go_enter Tryd.func29, Tryd.ntmps29
        go_wp2_with fail
        refine NN.out.mono ?_
        intro e w1 h
        obtain ⟨A4, c4, L4, rfl, hO4, hf4, b1⟩ := h.open
        have bs := below_new (Below.refl w1.heap.size w1) (.cells #[.int .i64 room, .slice A4 L4.length c4] 24)
        have BB := Lib.hid (below_on (below_on BN.out b1) bs)
        have hB0 := Lib.hid ((B0.out.later b1).later bs)
        have hB1 := Lib.hid ((B1.out.later b1).later bs)
        have S4 := Lib.hid (Blk.new w1 24 #[.int .i64 room, .slice A4 L4.length c4])
        have O4 := Lib.hid (hO4.oneD.later bs)
        have F4 := Lib.hid hf4
        have LA := dlast_any room A c L _ (HD.out.later BB.out)
        rw [HN.out] at LA
        have LL := Lib.hid LA
        have c0 := hB0.out.cell (i := 0) rfl
        have c1 := hB0.out.cell (i := 1) rfl
        clear h b1 bs LA NN B0 B1 BN hO4 hf4
        obtain ⟨W1, hW1⟩ : ∃ W1, w1.alloc (.cells #[.int .i64 room, .slice A4 L4.length c4] 24) = W1 := ⟨_, rfl⟩
        rw [hW1] at BB hB0 hB1 LL c0 c1 S4 O4
        go_upto_region 2 with (fail)
        try rw [hW1]
        clear hW1
        go_wp2_with fail
        refine LL.out.mono ?_
        rintro e w2 ⟨rfl, b2⟩
        have BB2 := Lib.hid (below_on BB.out b2)
        have hB12 := Lib.hid (hB1.out.later b2)
        have S42 := Lib.hid (S4.out.later b2)
        have RA := dappend_any room (n + 1) A4 B c4 cb L4 f _ (O4.out.later b2) (HBB.out.later BB2.out)
        rw [F4.out, HA.out] at RA
        have RR := Lib.hid RA
        clear c0 c1 b2 LL hB0 BB S4 O4 RA hB1
        have c0 := S42.out.cell (i := 0) rfl
        have c1 := S42.out.cell (i := 1) rfl
        go_wp2_with fail
        refine RR.out.mono ?_
        intro e w5 h
        obtain ⟨A5, c5, L5, rfl, hO5, hf5, b5⟩ := h.open
        have BB5 := Lib.hid (below_on BB2.out b5)
        have hB5 := Lib.hid (hB12.out.later b5)
        have hsz5 : w.heap.size + 1 < w2.heap.size := hB12.out.lt
        clear h b5 RR c0 c1 BB2
        have z' := hB5.out
        have y0 := z'.cell (i := 0) rfl
        have y1 := z'.cell (i := 1) rfl
        have s0 := z'.free 0
        have s1 := z'.free 1
        have hz := (z'.put 0 (.int .i64 rm)).put 1 (.slice A5 L5.length c5)
        have z0 := Lib.hid (hz.cell (i := 0) rfl)
        have z1 := Lib.hid (hz.cell (i := 1) rfl)
        have hbz := ((BB5.out).setCell (p := ⟨w.heap.size + 1, 0, none⟩) (by show w.heap.size ≤ w.heap.size + 1; omega) (.int .i64 rm)).setCell (p := ⟨w.heap.size + 1, 1, none⟩) (by show w.heap.size ≤ w.heap.size + 1; omega) (.slice A5 L5.length c5)
        have hO2 := (((hO5).low (p := ⟨w.heap.size + 1, 0, none⟩) (by show w.heap.size + 1 < _; omega) (.int .i64 rm)).low (p := ⟨w.heap.size + 1, 1, none⟩) (by show w.heap.size + 1 < _; omega) (.slice A5 L5.length c5)).lower (base' := w.heap.size) (by omega)
        have FIN := Lib.hid (show GivesDE (rm, fs2, kr) w (.returned (.tuple #[.agg #[.int .i64 rm, .slice A5 L5.length c5], .int .i64 kr])) _ from ⟨_, L5, rfl, hO2, hf5, hbz⟩)
        clear z' hz hbz hO5 hf5 hO2
        go_wp2
        have z0 := z0.out
        have z1 := z1.out
        exact bodyPost_ret (v := .tuple #[.agg #[.int .i64 rm, .slice A5 L5.length c5], .int .i64 kr]) (by simp [results, Tryd.results29, go_sem, z0, z1]) rfl FIN.out

set_option maxRecDepth 100000 in
set_option maxHeartbeats 6400000 in
theorem dstart_any (room : Int) (A B : Option Addr) (c cb : Nat) (L : List Fc) (p : List Int) (w : World) (h : OneD w A c L) (hb : OneB w B cb p) (hH : Halves w) :
    Calls Tryd.prog 15 #[.agg #[.int .i64 room, .slice A L.length c], .slice B p.length cb] w (GivesDE (Jn.startR room (L.map Fc.fi) p) w) := by
  have bn := below_new (below_new (Below.refl w.heap.size w) (.cells #[.int .i64 room, .slice A L.length c] 24)) (.cells #[.int .i64 0, .slice none 0 0] 24)
  have B0 := Lib.hid ((Blk.new w 24 #[.int .i64 room, .slice A L.length c]).alloc (.cells #[.int .i64 0, .slice none 0 0] 24))
  have B1 := Lib.hid (show Blk _ (w.heap.size + 1) 24 #[.int .i64 0, .slice none 0 0] from by simpa using Blk.new (w.alloc (.cells #[.int .i64 room, .slice A L.length c] 24)) 24 #[.int .i64 0, .slice none 0 0])
  have SE := dseal_any B cb p _ (hb.later bn) (hH.later bn)
  have HD := Lib.hid h
  have HBB := Lib.hid hb
  have hbl := hb.len
  have hlen := h.len
  have BN := Lib.hid bn
  clear h hb bn hH
  by_cases hp : p.length ≤ 1048576
  · rw [show Fr.sealed p = (Fr.frm p, 0) from by unfold Fr.sealed; rw [if_pos hp]] at SE
    have NN := Lib.hid SE
    have HP := Lib.hid hp
    clear SE
    obtain ⟨⟨rm, fs2, kr⟩, hA⟩ : ∃ r, Jn.startR room (L.map Fc.fi) p = r := ⟨_, rfl⟩
    rw [hA]
    rw [← Jn.beg_start room (L.map Fc.fi) hp] at hA
    have HA := Lib.hid hA
    clear hA
    go_enter Tryd.func15, Tryd.ntmps15
    go_wp2_with fail
    refine NN.out.mono ?_
    rintro e w1 ⟨v1, rfl, ho1, b1⟩
    obtain ⟨F3, f3, rfl, hF3⟩ := OneB.of_own ho1 (Fr.seal_byte HBB.out.byte)
    have BB := Lib.hid (below_on BN.out b1)
    have hB0 := Lib.hid (B0.out.later b1)
    have hB1 := Lib.hid (B1.out.later b1)
    have HF3 := Lib.hid hF3
    have c0 := hB0.out.cell (i := 0) rfl
    have c1 := hB0.out.cell (i := 1) rfl
    clear ho1 b1 hF3 NN B0 B1 BN
    have RA := dbegun_any room A F3 c f3 L (Fr.frm p) w1 (HD.out.later BB.out) HF3.out
    rw [HA.out] at RA
    have RR := Lib.hid RA
    clear RA
    go_wp2_with fail
    refine RR.out.mono ?_
    intro e w5 h
    obtain ⟨A5, c5, L5, rfl, hO5, hf5, b5⟩ := h.open
    have BB5 := Lib.hid (below_on BB.out b5)
    have hB5 := Lib.hid (hB1.out.later b5)
    have hsz5 : w.heap.size + 1 < w1.heap.size := hB1.out.lt
    clear h b5 RR c0 c1
    have z' := hB5.out
    have y0 := z'.cell (i := 0) rfl
    have y1 := z'.cell (i := 1) rfl
    have s0 := z'.free 0
    have s1 := z'.free 1
    have hz := (z'.put 0 (.int .i64 rm)).put 1 (.slice A5 L5.length c5)
    have z0 := Lib.hid (hz.cell (i := 0) rfl)
    have z1 := Lib.hid (hz.cell (i := 1) rfl)
    have hbz := ((BB5.out).setCell (p := ⟨w.heap.size + 1, 0, none⟩) (by show w.heap.size ≤ w.heap.size + 1; omega) (.int .i64 rm)).setCell (p := ⟨w.heap.size + 1, 1, none⟩) (by show w.heap.size ≤ w.heap.size + 1; omega) (.slice A5 L5.length c5)
    have hO2 := (((hO5).low (p := ⟨w.heap.size + 1, 0, none⟩) (by show w.heap.size + 1 < _; omega) (.int .i64 rm)).low (p := ⟨w.heap.size + 1, 1, none⟩) (by show w.heap.size + 1 < _; omega) (.slice A5 L5.length c5)).lower (base' := w.heap.size) (by omega)
    have FIN := Lib.hid (show GivesDE (rm, fs2, kr) w (.returned (.tuple #[.agg #[.int .i64 rm, .slice A5 L5.length c5], .int .i64 kr])) _ from ⟨_, L5, rfl, hO2, hf5, hbz⟩)
    clear z' hz hbz hO5 hf5 hO2
    go_wp2
    have z0 := z0.out
    have z1 := z1.out
    exact bodyPost_ret (v := .tuple #[.agg #[.int .i64 rm, .slice A5 L5.length c5], .int .i64 kr]) (by simp [results, Tryd.results15, go_sem, z0, z1]) rfl FIN.out
  · have hR : Jn.startR room (L.map Fc.fi) p = (0, [], 1) := by unfold Jn.startR; rw [if_neg (fun h => hp h.2)]
    rw [hR]
    rw [show Fr.sealed p = ([], 1) from by unfold Fr.sealed; rw [if_neg hp]] at SE
    have NN := Lib.hid SE
    clear SE hR hp HD B0
    go_enter Tryd.func15, Tryd.ntmps15
    go_wp2_with fail
    refine NN.out.mono ?_
    rintro e w1 ⟨v1, rfl, ho1, b1⟩
    obtain ⟨F3, f3, rfl, -⟩ := OneB.of_own ho1 (fun _ h => by cases h)
    have hB1 := B1.out.later b1
    have bb := below_on BN.out b1
    clear ho1 b1 NN
    have z' := hB1
    have y0 := z'.cell (i := 0) rfl
    have y1 := z'.cell (i := 1) rfl
    have s0 := z'.free 0
    have s1 := z'.free 1
    have hz := (z'.put 0 (.int .i64 0)).put 1 (.slice none 0 0)
    have z0 := Lib.hid (hz.cell (i := 0) rfl)
    have z1 := Lib.hid (hz.cell (i := 1) rfl)
    have hbz := ((bb).setCell (p := ⟨w.heap.size + 1, 0, none⟩) (by show w.heap.size ≤ w.heap.size + 1; omega) (.int .i64 0)).setCell (p := ⟨w.heap.size + 1, 1, none⟩) (by show w.heap.size ≤ w.heap.size + 1; omega) (.slice none 0 0)
    have FIN := Lib.hid (GivesDE.err 1 hbz)
    clear z' hz hbz hB1
    go_wp2
    have z0 := z0.out
    have z1 := z1.out
    exact bodyPost_ret (v := .tuple #[.agg #[.int .i64 0, .slice none 0 0], .int .i64 1]) (by simp [results, Tryd.results15, go_sem, z0, z1]) rfl FIN.out

set_option maxRecDepth 100000 in
set_option maxHeartbeats 6400000 in
theorem dappJ_any (room : Int) (A B : Option Addr) (c cb : Nat) (L : List Fc) (p : List Int) (w : World) (h : OneD w A c L) (hb : OneB w B cb p) (hH : Halves w) :
    Calls Tryd.prog 10 #[.agg #[.int .i64 room, .slice A L.length c], .slice B p.length cb] w (GivesDE (Jn.appJR room (L.map Fc.fi) p) w) := by
  have bn := below_new (below_new (Below.refl w.heap.size w) (.cells #[.int .i64 room, .slice A L.length c] 24)) (.cells #[.int .i64 0, .slice none 0 0] 24)
  have B0 := Lib.hid ((Blk.new w 24 #[.int .i64 room, .slice A L.length c]).alloc (.cells #[.int .i64 0, .slice none 0 0] 24))
  have B1 := Lib.hid (show Blk _ (w.heap.size + 1) 24 #[.int .i64 0, .slice none 0 0] from by simpa using Blk.new (w.alloc (.cells #[.int .i64 room, .slice A L.length c] 24)) 24 #[.int .i64 0, .slice none 0 0])
  have SE := dseal_any B cb p _ (hb.later bn) (hH.later bn)
  have HD := Lib.hid h
  have HBB := Lib.hid hb
  have hbl := hb.len
  have hlen := h.len
  have BN := Lib.hid bn
  clear h hb bn hH
  by_cases hp : p.length ≤ 1048576
  · rw [show Fr.sealed p = (Fr.frm p, 0) from by unfold Fr.sealed; rw [if_pos hp]] at SE
    have NN := Lib.hid SE
    have HP := Lib.hid hp
    clear SE
    obtain ⟨⟨rm, fs2, kr⟩, hA⟩ : ∃ r, Jn.appJR room (L.map Fc.fi) p = r := ⟨_, rfl⟩
    rw [hA]
    have hA2 : (if fitsV L (Fr.frm p).length = true then Dk.appR room (L.map Fc.fi) (Jn.lastR room (L.map Fc.fi)) (Fr.frm p) else Jn.begR room (L.map Fc.fi) (Fr.frm p)) = (rm, fs2, kr) := by
      rw [← hA, Jn.beg_start room (L.map Fc.fi) hp]
      by_cases hq : Dk.fmd room (L.map Fc.fi) = true
      · unfold Jn.appJR
        rw [if_pos (⟨hq, hp⟩ : Dk.fmd room (L.map Fc.fi) = true ∧ p.length ≤ 1048576), fits_fresh hq hp]
        cases Jn.fresh (L.map Fc.fi) p <;> rfl
      · have e0 : Jn.appJR room (L.map Fc.fi) p = (0, [], 1) := by unfold Jn.appJR; rw [if_neg (fun h => hq h.1)]
        have e1 : Dk.appR room (L.map Fc.fi) (Jn.lastR room (L.map Fc.fi)) (Fr.frm p) = (0, [], 1) := by unfold Dk.appR; rw [if_neg (fun h => hq h.1)]
        have e2 : Jn.startR room (L.map Fc.fi) p = (0, [], 1) := by unfold Jn.startR; rw [if_neg (fun h => hq h.1)]
        rw [e0, e1, e2]
        split <;> rfl
    have HA := Lib.hid hA2
    clear hA hA2
    cases hv : fitsV L (Fr.frm p).length with
    | false =>
      have HV := Lib.hid hv
      have HA := Lib.hid (show Jn.begR room (L.map Fc.fi) (Fr.frm p) = (rm, fs2, kr) from by have := HA.out; rw [hv] at this; exact this)
      clear hv
      go_enter Tryd.func10, Tryd.ntmps10
      go_wp2_with fail
      refine NN.out.mono ?_
      rintro e w1 ⟨v1, rfl, ho1, b1⟩
      obtain ⟨F3, f3, rfl, hF3⟩ := OneB.of_own ho1 (Fr.seal_byte HBB.out.byte)
      have BB := Lib.hid (below_on BN.out b1)
      have hB0 := Lib.hid (B0.out.later b1)
      have hB1 := Lib.hid (B1.out.later b1)
      have HF3 := Lib.hid hF3
      have c0 := hB0.out.cell (i := 0) rfl
      have c1 := hB0.out.cell (i := 1) rfl
      clear ho1 b1 hF3 NN B0 B1 BN
      have FT := dfits_any room A F3 c (Fr.frm p).length f3 L w1 (HD.out.later BB.out)
      rw [HV.out] at FT
      have FF := Lib.hid FT
      clear FT
      go_wp2_with fail
      refine FF.out.mono ?_
      rintro e w2 ⟨rfl, b2⟩
      have BB2 := Lib.hid (below_on BB.out b2)
      have hB02 := Lib.hid (hB0.out.later b2)
      have hB12 := Lib.hid (hB1.out.later b2)
      have HF32 := Lib.hid (HF3.out.later b2)
      clear b2 c0 c1 FF hB0 hB1 HF3 BB
      have c0 := hB02.out.cell (i := 0) rfl
      have c1 := hB02.out.cell (i := 1) rfl
      have RA := dbegun_any room A F3 c f3 L (Fr.frm p) w2 (HD.out.later BB2.out) HF32.out
      rw [HA.out] at RA
      have RR := Lib.hid RA
      clear RA
      go_wp2_with fail
      refine RR.out.mono ?_
      intro e w5 h
      obtain ⟨A5, c5, L5, rfl, hO5, hf5, b5⟩ := h.open
      have BB5 := Lib.hid (below_on BB2.out b5)
      have hB5 := Lib.hid (hB12.out.later b5)
      have hsz5 : w.heap.size + 1 < w2.heap.size := hB12.out.lt
      clear h b5 RR c0 c1
      have z' := hB5.out
      have y0 := z'.cell (i := 0) rfl
      have y1 := z'.cell (i := 1) rfl
      have s0 := z'.free 0
      have s1 := z'.free 1
      have hz := (z'.put 0 (.int .i64 rm)).put 1 (.slice A5 L5.length c5)
      have z0 := Lib.hid (hz.cell (i := 0) rfl)
      have z1 := Lib.hid (hz.cell (i := 1) rfl)
      have hbz := ((BB5.out).setCell (p := ⟨w.heap.size + 1, 0, none⟩) (by show w.heap.size ≤ w.heap.size + 1; omega) (.int .i64 rm)).setCell (p := ⟨w.heap.size + 1, 1, none⟩) (by show w.heap.size ≤ w.heap.size + 1; omega) (.slice A5 L5.length c5)
      have hO2 := (((hO5).low (p := ⟨w.heap.size + 1, 0, none⟩) (by show w.heap.size + 1 < _; omega) (.int .i64 rm)).low (p := ⟨w.heap.size + 1, 1, none⟩) (by show w.heap.size + 1 < _; omega) (.slice A5 L5.length c5)).lower (base' := w.heap.size) (by omega)
      have FIN := Lib.hid (show GivesDE (rm, fs2, kr) w (.returned (.tuple #[.agg #[.int .i64 rm, .slice A5 L5.length c5], .int .i64 kr])) _ from ⟨_, L5, rfl, hO2, hf5, hbz⟩)
      clear z' hz hbz hO5 hf5 hO2
      go_wp2
      have z0 := z0.out
      have z1 := z1.out
      exact bodyPost_ret (v := .tuple #[.agg #[.int .i64 rm, .slice A5 L5.length c5], .int .i64 kr]) (by simp [results, Tryd.results10, go_sem, z0, z1]) rfl FIN.out
    | true =>
      have HV := Lib.hid hv
      obtain ⟨n, hn⟩ : ∃ n, Jn.lastR room (L.map Fc.fi) = n := ⟨_, rfl⟩
      have HA := Lib.hid (show Dk.appR room (L.map Fc.fi) n (Fr.frm p) = (rm, fs2, kr) from by have := HA.out; rw [hv, hn] at this; exact this)
      have HN := Lib.hid hn
      clear hv hn
      go_enter Tryd.func10, Tryd.ntmps10
      go_wp2_with fail
      refine NN.out.mono ?_
      rintro e w1 ⟨v1, rfl, ho1, b1⟩
      obtain ⟨F3, f3, rfl, hF3⟩ := OneB.of_own ho1 (Fr.seal_byte HBB.out.byte)
      have BB := Lib.hid (below_on BN.out b1)
      have hB0 := Lib.hid (B0.out.later b1)
      have hB1 := Lib.hid (B1.out.later b1)
      have HF3 := Lib.hid hF3
      have c0 := hB0.out.cell (i := 0) rfl
      have c1 := hB0.out.cell (i := 1) rfl
      clear ho1 b1 hF3 NN B0 B1 BN
      have FT := dfits_any room A F3 c (Fr.frm p).length f3 L w1 (HD.out.later BB.out)
      rw [HV.out] at FT
      have FF := Lib.hid FT
      clear FT
      go_wp2_with fail
      refine FF.out.mono ?_
      rintro e w2 ⟨rfl, b2⟩
      have BB2 := Lib.hid (below_on BB.out b2)
      have hB02 := Lib.hid (hB0.out.later b2)
      have hB12 := Lib.hid (hB1.out.later b2)
      have HF32 := Lib.hid (HF3.out.later b2)
      clear b2 c0 c1 FF hB0 hB1 HF3 BB
      have LA := dlast_any room A c L w2.drew (HD.out.later BB2.out.drew)
      rw [HN.out] at LA
      have LL := Lib.hid LA
      have C0 := Lib.hid (show w2.drew.cell? ⟨w.heap.size, 0, none⟩ = _ from hB02.out.drew.cell (i := 0) rfl)
      have C1 := Lib.hid (show w2.drew.cell? ⟨w.heap.size, 1, none⟩ = _ from hB02.out.drew.cell (i := 1) rfl)
      have RA := Lib.hid (fun (w3 : World) (b3 : Below w2.drew.heap.size w2.drew w3) => show Calls Tryd.prog 30 #[.agg #[.int .i64 room, .slice A L.length c], .int .i64 n, .slice F3 (Fr.frm p).length f3] w3 (GivesDE (rm, fs2, kr) w3) from by
        have := dappend_any room n A F3 c f3 L (Fr.frm p) w3 (HD.out.later (below_on BB2.out.drew b3)) ((HF32.out.later (Below.drew (Below.refl _ _))).later b3)
        rw [HA.out] at this
        exact this)
      have RT := Lib.hid (fun (w3 w6 : World) (V : Option Addr) (cv : Nat) (L2 : List Fc) (b3 : Below w2.drew.heap.size w2.drew w3) (hO : OwnD w6 w3.heap.size 50 5 (.slice V L2.length cv) L2) (hf : L2.map Fc.fi = fs2) (b6 : Below w3.heap.size w3 w6) =>
        (show (w6.cell? ⟨w.heap.size + 1, 0, none⟩ = some (.int .i64 0) ∧ w6.cell? ⟨w.heap.size + 1, 1, none⟩ = some (.slice none 0 0) ∧ w6.frozen? ⟨w.heap.size + 1, 0, none⟩ = false ∧ w6.frozen? ⟨w.heap.size + 1, 1, none⟩ = false) ∧
          ∃ W7, W7 = (w6.setCell ⟨w.heap.size + 1, 0, none⟩ (.int .i64 rm)).setCell ⟨w.heap.size + 1, 1, none⟩ (.slice V L2.length cv) ∧ W7.cell? ⟨w.heap.size + 1, 0, none⟩ = some (.int .i64 rm) ∧ W7.cell? ⟨w.heap.size + 1, 1, none⟩ = some (.slice V L2.length cv) ∧ GivesDE (rm, fs2, kr) w (.returned (.tuple #[.agg #[.int .i64 rm, .slice V L2.length cv], .int .i64 kr])) W7 from by
            have z := (hB12.out.drew.later b3).later b6
            have hlt : w.heap.size + 1 < w3.heap.size := (hB12.out.drew.later b3).lt
            have hz := (z.put 0 (.int .i64 rm)).put 1 (.slice V L2.length cv)
            exact ⟨⟨z.cell (i := 0) rfl, z.cell (i := 1) rfl, z.free 0, z.free 1⟩, _, rfl, hz.cell (i := 0) rfl, hz.cell (i := 1) rfl, _, L2, rfl, ((hO.low (p := ⟨w.heap.size + 1, 0, none⟩) hlt (.int .i64 rm)).low (p := ⟨w.heap.size + 1, 1, none⟩) hlt (.slice V L2.length cv)).lower (by omega), hf,
              ((below_on (below_on BB2.out.drew b3) b6).setCell (p := ⟨w.heap.size + 1, 0, none⟩) (by show w.heap.size ≤ w.heap.size + 1; omega) (.int .i64 rm)).setCell (p := ⟨w.heap.size + 1, 1, none⟩) (by show w.heap.size ≤ w.heap.size + 1; omega) (.slice V L2.length cv)⟩))
      have c0 := C0.out
      have c1 := C1.out
      clear LA HF32 HA hB02 hB12 HV HN BB2 HD HBB HP
      go_wp2_with fail
      go_region_with (first
        | (go_at_call 13; refine LL.out.mono ?_; rintro e w3 ⟨rfl, b3⟩; have g0 := cell_later b3 C0.out; have g1 := cell_later b3 C1.out)
        | (go_at_call 30; refine (RA.out _ b3).mono ?_; intro e w6 h; obtain ⟨V, cv, L2, rfl, hO, hf, b6⟩ := h.open; have rt := RT.out _ _ V cv L2 b3 hO hf b6; have y0 := rt.1.1; have y1 := rt.1.2.1; have s0 := rt.1.2.2.1; have s1 := rt.1.2.2.2; have RR := Lib.hid rt.2; clear rt h hO hf b6))
      all_goals
        go_wp2
        obtain ⟨W7, hW7, z0, z1, fin⟩ := RR.out
        subst hW7
        exact bodyPost_ret (v := .tuple #[.agg #[.int .i64 rm, .slice V L2.length cv], .int .i64 kr]) (by simp [results, Tryd.results10, go_sem, z0, z1]) rfl fin
  · have hR : Jn.appJR room (L.map Fc.fi) p = (0, [], 1) := by unfold Jn.appJR; rw [if_neg (fun h => hp h.2)]
    rw [hR]
    rw [show Fr.sealed p = ([], 1) from by unfold Fr.sealed; rw [if_neg hp]] at SE
    have NN := Lib.hid SE
    clear SE hR hp HD B0
    go_enter Tryd.func10, Tryd.ntmps10
    go_wp2_with fail
    refine NN.out.mono ?_
    rintro e w1 ⟨v1, rfl, ho1, b1⟩
    obtain ⟨F3, f3, rfl, -⟩ := OneB.of_own ho1 (fun _ h => by cases h)
    have hB1 := B1.out.later b1
    have bb := below_on BN.out b1
    clear ho1 b1 NN
    have z' := hB1
    have y0 := z'.cell (i := 0) rfl
    have y1 := z'.cell (i := 1) rfl
    have s0 := z'.free 0
    have s1 := z'.free 1
    have hz := (z'.put 0 (.int .i64 0)).put 1 (.slice none 0 0)
    have z0 := Lib.hid (hz.cell (i := 0) rfl)
    have z1 := Lib.hid (hz.cell (i := 1) rfl)
    have hbz := ((bb).setCell (p := ⟨w.heap.size + 1, 0, none⟩) (by show w.heap.size ≤ w.heap.size + 1; omega) (.int .i64 0)).setCell (p := ⟨w.heap.size + 1, 1, none⟩) (by show w.heap.size ≤ w.heap.size + 1; omega) (.slice none 0 0)
    have FIN := Lib.hid (GivesDE.err 1 hbz)
    clear z' hz hbz hB1
    go_wp2
    have z0 := z0.out
    have z1 := z1.out
    exact bodyPost_ret (v := .tuple #[.agg #[.int .i64 0, .slice none 0 0], .int .i64 1]) (by simp [results, Tryd.results10, go_sem, z0, z1]) rfl FIN.out
end Go.Proofs.YtkhggofcbdcliaaDoor
namespace Go.Proofs.YtkhggofcbdcliaaDoor
open Go.RowKit

theorem OneD.single {w : World} {g : Nat} {x : Fc} (hB : Blk w g 50 #[.int .i64 x.num, .slice x.X x.l.length x.c, .int .i64 x.s]) (hx : OneB w x.X x.c x.l) : OneD w (some ⟨g, 0, none⟩) 1 [x] :=
  ⟨Nat.le_refl _, by unfold maxLen; omega, (fun h => by cases h), (fun _ => ⟨g, 0, rfl, fun j u hu => by
    rw [Nat.zero_add]
    exact hB.cell (by simpa [fCells] using hu)⟩), fun f hf => by
    rw [List.mem_singleton] at hf
    subst hf
    exact hx⟩

set_option maxRecDepth 100000 in
set_option maxHeartbeats 6400000 in
theorem ddropJ_any (room : Int) (A : Option Addr) (c : Nat) (L : List Fc) (w : World) (h : OneD w A c L) :
    Calls Tryd.prog 17 #[.agg #[.int .i64 room, .slice A L.length c]] w (GivesDO (Jn.dropR room (L.map Fc.fi)) w) := by
  have bn := below_new (below_new (Below.refl w.heap.size w) (.cells #[.int .i64 room, .slice A L.length c] 24)) (.cells #[.int .i64 0, .slice none 0 0] 24)
  have N := dformed_any room A c L _ (h.later bn)
  have B0 := Lib.hid ((Blk.new w 24 #[.int .i64 room, .slice A L.length c]).alloc (.cells #[.int .i64 0, .slice none 0 0] 24))
  have B1 := Lib.hid (show Blk _ (w.heap.size + 1) 24 #[.int .i64 0, .slice none 0 0] from by simpa using Blk.new (w.alloc (.cells #[.int .i64 room, .slice A L.length c] 24)) 24 #[.int .i64 0, .slice none 0 0])
  have HD := Lib.hid h
  clear h
  cases hq : Dk.fmd room (L.map Fc.fi) with
  | false =>
    have hR : Jn.dropR room (L.map Fc.fi) = (0, [], 1) := by unfold Jn.dropR; rw [if_neg (by rw [hq]; exact Bool.false_ne_true)]
    rw [hR]
    rw [hq] at N
    have NN := Lib.hid N
    clear hq hR HD B0 N
    go_enter Tryd.func17, Tryd.ntmps17
    go_wp2_with fail
    refine NN.out.mono ?_
    rintro e w1 ⟨rfl, b1⟩
    have hB1 := B1.out.later b1
    have bb := below_on bn b1
    clear b1 NN
    have z' := hB1
    have y0 := z'.cell (i := 0) rfl
    have y1 := z'.cell (i := 1) rfl
    have s0 := z'.free 0
    have s1 := z'.free 1
    have hz := (z'.put 0 (.int .i64 0)).put 1 (.slice none 0 0)
    have z0 := Lib.hid (hz.cell (i := 0) rfl)
    have z1 := Lib.hid (hz.cell (i := 1) rfl)
    have hbz := ((bb).setCell (p := ⟨w.heap.size + 1, 0, none⟩) (by show w.heap.size ≤ w.heap.size + 1; omega) (.int .i64 0)).setCell (p := ⟨w.heap.size + 1, 1, none⟩) (by show w.heap.size ≤ w.heap.size + 1; omega) (.slice none 0 0)
    have FIN := Lib.hid (show GivesDO (0, [], 1) w (.returned (.tuple #[.agg #[.int .i64 0, .slice none 0 0], .int .i64 1])) _ from ⟨none, 0, [], rfl, OneD.nil _, rfl, hbz⟩)
    clear z' hz hbz hB1
    go_wp2
    have z0 := z0.out
    have z1 := z1.out
    exact bodyPost_ret (v := .tuple #[.agg #[.int .i64 0, .slice none 0 0], .int .i64 1]) (by simp [results, Tryd.results17, go_sem, z0, z1]) rfl FIN.out
  | true =>
    rw [hq] at N
    have NN := Lib.hid N
    have BN := Lib.hid bn
    have HQ := Lib.hid hq
    clear N bn
    by_cases hL : L = []
    · have hR : Jn.dropR room (L.map Fc.fi) = (0, [], 16) := by unfold Jn.dropR; rw [if_pos HQ.out, hL]; rfl
      rw [hR]
      clear hR hq HQ
      subst hL
      go_enter Tryd.func17, Tryd.ntmps17
      go_wp2_with fail
      refine NN.out.mono ?_
      rintro e w1 ⟨rfl, b1⟩
      have BB := Lib.hid (below_on BN.out b1)
      have hB0 := Lib.hid (B0.out.later b1)
      have hB1 := Lib.hid (B1.out.later b1)
      have c0 := hB0.out.cell (i := 0) rfl
      have c1 := hB0.out.cell (i := 1) rfl
      clear b1 NN B0 B1 BN
      have LO := dlastOf_any room A c [] Fc.zero false w1 (HD.out.later BB.out) (.inl ⟨rfl, rfl, rfl⟩)
      unfold lastV Fc.zero at LO
      dsimp only at LO
      have LL := Lib.hid LO
      clear LO
      go_wp2_with fail
      refine LL.out.mono ?_
      rintro e w2 ⟨rfl, b2⟩
      have bx := below_new (Below.refl w2.heap.size w2) (.cells #[.int .i64 0, .slice none 0 0, .int .i64 0] 50)
      have bb2 := below_on (below_on BB.out b2) bx
      have hB12 := (hB1.out.later b2).later bx
      clear c0 c1 b2 bx LL hB0 hB1
      have z' := hB12
      have y0 := z'.cell (i := 0) rfl
      have y1 := z'.cell (i := 1) rfl
      have s0 := z'.free 0
      have s1 := z'.free 1
      have hz := (z'.put 0 (.int .i64 0)).put 1 (.slice none 0 0)
      have z0 := Lib.hid (hz.cell (i := 0) rfl)
      have z1 := Lib.hid (hz.cell (i := 1) rfl)
      have hbz := ((bb2).setCell (p := ⟨w.heap.size + 1, 0, none⟩) (by show w.heap.size ≤ w.heap.size + 1; omega) (.int .i64 0)).setCell (p := ⟨w.heap.size + 1, 1, none⟩) (by show w.heap.size ≤ w.heap.size + 1; omega) (.slice none 0 0)
      have FIN := Lib.hid (show GivesDO (0, [], 16) w (.returned (.tuple #[.agg #[.int .i64 0, .slice none 0 0], .int .i64 16])) _ from ⟨none, 0, [], rfl, OneD.nil _, rfl, hbz⟩)
      clear z' hz hbz hB12
      go_wp2
      have z0 := z0.out
      have z1 := z1.out
      exact bodyPost_ret (v := .tuple #[.agg #[.int .i64 0, .slice none 0 0], .int .i64 16]) (by simp [results, Tryd.results17, go_sem, z0, z1]) rfl FIN.out
    · obtain ⟨x, hx, hx2⟩ := Jn.getLast_at hL
      have hR : Jn.dropR room (L.map Fc.fi) = (room, [x.fi], 0) := by unfold Jn.dropR; rw [if_pos hq, List.getLast?_map, hx2]; rfl
      rw [hR]
      have hfit := (Dk.fit hq).each x (List.mem_of_getElem? hx)
      have HX := Lib.hid (HD.out.each x (List.mem_of_getElem? hx))
      have LO := Lib.hid (fun w1 h => dlastOf_any room A c L x true w1 h (.inr ⟨hL, hx, hx2, rfl⟩))
      unfold lastV at LO
      clear hR hq HQ hL hx hx2
      go_enter Tryd.func17, Tryd.ntmps17
      go_wp2_with fail
      refine NN.out.mono ?_
      rintro e w1 ⟨rfl, b1⟩
      have BB := Lib.hid (below_on BN.out b1)
      have hB0 := Lib.hid (B0.out.later b1)
      have hB1 := Lib.hid (B1.out.later b1)
      have c0 := hB0.out.cell (i := 0) rfl
      have c1 := hB0.out.cell (i := 1) rfl
      clear b1 NN B0 B1 BN
      have LL := Lib.hid (LO.out w1 (HD.out.later BB.out))
      clear LO
      go_wp2_with fail
      refine LL.out.mono ?_
      rintro e w2 ⟨rfl, b2⟩
      obtain ⟨W3, hW3⟩ : ∃ W3, w2.alloc (.cells #[.int .i64 x.num, .slice x.X x.l.length x.c, .int .i64 x.s] 50) = W3 := ⟨_, rfl⟩
      have bx : Below w2.heap.size w2 W3 := by rw [← hW3]; exact below_new (Below.refl w2.heap.size w2) _
      have XB : Blk W3 w2.heap.size 50 #[.int .i64 x.num, .slice x.X x.l.length x.c, .int .i64 x.s] := by rw [← hW3]; exact Blk.new w2 _ _
      have BB3 := Lib.hid (below_on (below_on BB.out b2) bx)
      have hB03 := Lib.hid ((hB0.out.later b2).later bx)
      have hB13 := Lib.hid ((hB1.out.later b2).later bx)
      have hs2 : w.heap.size + 1 < w2.heap.size := (hB1.out.later b2).lt
      have CL := Lib.hid (cloneB_any x.X x.c x.l W3 hfit (HX.out.later BB3.out))
      have x1 := XB.cell (i := 1) rfl
      have HXB := Lib.hid XB
      clear c0 c1 b2 bx LL hB0 hB1 BB XB
      go_upto_region 4 with (fail)
      try rw [hW3]
      clear hW3
      go_wp2_with fail
      refine CL.out.mono ?_
      rintro e w4 ⟨v4, rfl, ho4, b4⟩
      obtain ⟨V, cv, rfl, -⟩ := OneB.of_own ho4 HX.out.byte
      have XB4 := HXB.out.later b4
      have hB04 := hB03.out.later b4
      have hB14 := hB13.out.later b4
      have BB4 := below_on BB3.out b4
      have hs3 : w2.heap.size < W3.heap.size := HXB.out.lt
      have hs4 : W3.heap.size ≤ w4.heap.size := b4.size
      have HO4 := Lib.hid (OwnB.of_own (f := ⟨x.num, V, cv, x.l, x.s⟩) ho4 HX.out.byte)
      have x1 := XB4.cell (i := 1) rfl
      have f1 := XB4.free 1
      have XB5 := Lib.hid (XB4.put 1 (.slice V x.l.length cv))
      have hB05 := Lib.hid (hB04.far (p := ⟨w2.heap.size, 1, none⟩) (by show w.heap.size ≠ w2.heap.size; omega) (.slice V x.l.length cv))
      have hB15 := Lib.hid (hB14.far (p := ⟨w2.heap.size, 1, none⟩) (by show w.heap.size + 1 ≠ w2.heap.size; omega) (.slice V x.l.length cv))
      have BB5 := Lib.hid (BB4.setCell (p := ⟨w2.heap.size, 1, none⟩) (by show w.heap.size ≤ w2.heap.size; omega) (.slice V x.l.length cv))
      have KP := Lib.hid ((Kept.refl (w.heap.size + 1) W3.heap.size w4).put (p := ⟨w2.heap.size, 1, none⟩) (by show w.heap.size + 1 ≤ w2.heap.size; omega) hs3 (.slice V x.l.length cv))
      clear ho4 b4 XB4 hB04 hB14 BB4 CL hB03 hB13 BB3 HXB
      go_upto_region 7 with (fail)
      obtain ⟨W5, hW5⟩ : ∃ W5, w4.setCell ⟨w2.heap.size, 1, none⟩ (.slice V x.l.length cv) = W5 := ⟨_, rfl⟩
      rw [hW5] at XB5 hB05 hB15 BB5 KP ⊢
      clear hW5 x1 f1
      have x0 := XB5.out.cell (i := 0) rfl
      have x1 := XB5.out.cell (i := 1) rfl
      have x2 := XB5.out.cell (i := 2) rfl
      have c0 := hB05.out.cell (i := 0) rfl
      have hs5 : w4.heap.size ≤ W5.heap.size := KP.out.size
      obtain ⟨W6, hW6⟩ : ∃ W6, W5.alloc (.cells #[.int .i64 x.num, .slice V x.l.length cv, .int .i64 x.s] 50) = W6 := ⟨_, rfl⟩
      have b6 : Below W5.heap.size W5 W6 := by rw [← hW6]; exact below_new (Below.refl W5.heap.size W5) _
      have NB : Blk W6 W5.heap.size 50 #[.int .i64 x.num, .slice V x.l.length cv, .int .i64 x.s] := by rw [← hW6]; exact Blk.new W5 _ _
      have hB16 := hB15.out.later b6
      have bb6 := below_on BB5.out b6
      have OB6 : OwnB W6 W3.heap.size 5 (⟨x.num, V, cv, x.l, x.s⟩ : Fc) := (HO4.out.stays fun k hk => KP.out.same k (HO4.out.lt k hk).2 (.inr (HO4.out.lt k hk).1)).later b6
      subst hW6
      have z' := hB16
      have y0 := z'.cell (i := 0) rfl
      have y1 := z'.cell (i := 1) rfl
      have s0 := z'.free 0
      have s1 := z'.free 1
      have hz := (z'.put 0 (.int .i64 room)).put 1 (.slice (some ⟨W5.heap.size, 0, none⟩) 1 1)
      have z0 := Lib.hid (hz.cell (i := 0) rfl)
      have z1 := Lib.hid (hz.cell (i := 1) rfl)
      have hbz := ((bb6).setCell (p := ⟨w.heap.size + 1, 0, none⟩) (by show w.heap.size ≤ w.heap.size + 1; omega) (.int .i64 room)).setCell (p := ⟨w.heap.size + 1, 1, none⟩) (by show w.heap.size ≤ w.heap.size + 1; omega) (.slice (some ⟨W5.heap.size, 0, none⟩) 1 1)
      have NB7 := (NB.far (p := ⟨w.heap.size + 1, 0, none⟩) (by show W5.heap.size ≠ w.heap.size + 1; omega) (.int .i64 room)).far (p := ⟨w.heap.size + 1, 1, none⟩) (by show W5.heap.size ≠ w.heap.size + 1; omega) (.slice (some ⟨W5.heap.size, 0, none⟩) 1 1)
      have OB7 := (OB6.far (p := ⟨w.heap.size + 1, 0, none⟩) (fun hk => by have := (OB6.lt _ hk).1; simp only at this; omega) (.int .i64 room)).stays (w' := ((W5.alloc (.cells #[.int .i64 x.num, .slice V x.l.length cv, .int .i64 x.s] 50)).setCell ⟨w.heap.size + 1, 0, none⟩ (.int .i64 room)).setCell ⟨w.heap.size + 1, 1, none⟩ (.slice (some ⟨W5.heap.size, 0, none⟩) 1 1)) (fun k hk => Below.heap_setCell _ _ _ _ (fun e => by have := (OB6.lt k hk).1; simp only at e; omega))
      have FIN := Lib.hid (show GivesDO (room, [x.fi], 0) w (.returned (.tuple #[.agg #[.int .i64 room, .slice (some ⟨W5.heap.size, 0, none⟩) 1 1], .int .i64 0])) _ from ⟨_, 1, [(⟨x.num, V, cv, x.l, x.s⟩ : Fc)], rfl, OneD.single NB7 OB7.one, rfl, hbz⟩)
      clear z' hz hbz hB16 NB NB7 OB6 OB7 bb6 b6
      go_wp2
      have z0 := z0.out
      have z1 := z1.out
      exact bodyPost_ret (v := .tuple #[.agg #[.int .i64 room, .slice (some ⟨W5.heap.size, 0, none⟩) 1 1], .int .i64 0]) (by simp [results, Tryd.results17, go_sem, z0, z1]) rfl FIN.out
end Go.Proofs.YtkhggofcbdcliaaDoor
namespace Go.Proofs.YtkhggofcbdcliaaDoor
open Go.RowKit

namespace Dk
/-- The files have just what was appended; of this what was synced is sure. -/
structure Sr (fs : List Fi) (al su : Nat → List Int) : Prop where
  fm : fmd 4096 fs = true
  has : ∀ f ∈ fs, ∃ k : Nat, k < 4 ∧ f.1 = (k : Int) ∧ f.2.1 = al k ∧ su k = (al k).take f.2.2.toNat
  non : ∀ k : Nat, k < 4 → (∀ f ∈ fs, f.1 ≠ (k : Int)) → al k = [] ∧ su k = []
theorem fmd_mk2 {room : Int} {fs : List Fi} (h0 : 0 ≤ room) (h1 : room ≤ 16777216) (h2 : used fs ≤ room) (h3 : ∀ f ∈ fs, 0 ≤ f.1 ∧ f.1 ≤ 1048576 ∧ 0 ≤ f.2.2 ∧ f.2.2 ≤ (f.2.1.length : Int)) (h4 : fs.Pairwise (fun a b => a.1 < b.1)) : fmd room fs = true := by
  unfold fmd
  rw [Bool.and_eq_true, decide_eq_true_eq]
  exact ⟨⟨h0, h1⟩, fmdF_mk fs 0 room h2 h3 h4⟩
theorem Sr.start : Sr [] (fun _ => []) (fun _ => []) := ⟨by decide, (fun _ h => by cases h), fun _ _ _ => ⟨rfl, rfl⟩⟩
/-- One file is changed into another of the same number and no more bytes, all of them sure. -/
structure Less (f f' : Fi) : Prop where
  num : f'.1 = f.1
  len : f'.2.1.length ≤ f.2.1.length
  s0 : 0 ≤ f'.2.2
  s1 : f'.2.2 ≤ (f'.2.1.length : Int)
theorem less_key : ∀ (fs fs' : List Fi), fs'.length = fs.length → (∀ (i : Nat) (f f' : Fi), fs[i]? = some f → fs'[i]? = some f' → Less f f') → used fs' ≤ used fs ∧ (∀ f' ∈ fs', ∃ f ∈ fs, Less f f') ∧ fs'.map (·.1) = fs.map (·.1)
  | [], [], _, _ => ⟨Int.le_refl _, (fun _ h => by cases h), rfl⟩
  | [], _ :: _, h, _ => by simp at h
  | _ :: _, [], h, _ => by simp at h
  | a :: r, b :: s, h, hg => by
    obtain ⟨i1, i2, i3⟩ := less_key r s (by simpa using h) (fun i f f' h1 h2 => hg (i + 1) f f' (by simpa using h1) (by simpa using h2))
    have h1 := hg 0 a b rfl rfl
    refine ⟨?_, fun f' hf' => ?_, ?_⟩
    · show (b.2.1.length : Int) + used s ≤ (a.2.1.length : Int) + used r
      have := h1.len
      omega
    · rcases List.mem_cons.1 hf' with rfl | h
      · exact ⟨a, List.mem_cons_self .., h1⟩
      · obtain ⟨f, hf, hl⟩ := i2 f' h
        exact ⟨f, List.mem_cons_of_mem _ hf, hl⟩
    · rw [List.map_cons, List.map_cons, i3, h1.num]
theorem less_fmd {room : Int} {fs fs' : List Fi} (hl : fs'.length = fs.length) (h : ∀ (i : Nat) (f f' : Fi), fs[i]? = some f → fs'[i]? = some f' → Less f f') (hf : fmd room fs = true) : fmd room fs' = true := by
  have hF := fmd_facts hf
  obtain ⟨k1, k2, k3⟩ := less_key fs fs' hl h
  refine fmd_mk2 hF.r0 hF.r1 (by have := hF.use; omega) (fun f' hf' => ?_) ?_
  · obtain ⟨f, hf, hl⟩ := k2 f' hf'
    obtain ⟨n1, n2, n3, n4⟩ := hF.num f hf
    have h1 := hl.num
    have h2 := hl.s0
    have h3 := hl.s1
    exact ⟨by rw [h1]; exact n1, by rw [h1]; exact n2, h2, h3⟩
  · have h1 : (fs.map (·.1)).Pairwise (· < ·) := List.pairwise_map.2 hF.up
    rw [← k3] at h1
    exact List.pairwise_map.1 h1
section
variable {fs : List Fi} {al su : Nat → List Int}
theorem Sr.sync (h : Sr fs al su) : Sr (fs.map syn1) al al := by
  refine ⟨less_fmd (List.length_map ..) (fun i f f' h1 h2 => ?_) h.fm, fun f hf => ?_, fun k hk hn => ?_⟩
  · rw [List.getElem?_map, h1] at h2
    simp at h2
    subst h2
    exact ⟨rfl, Nat.le_refl _, by show (0 : Int) ≤ (f.2.1.length : Int); omega, Int.le_refl _⟩
  · obtain ⟨g, hg, rfl⟩ := List.mem_map.1 hf
    obtain ⟨k, hk, h1, h2, -⟩ := h.has g hg
    refine ⟨k, hk, h1, h2, ?_⟩
    show al k = (al k).take ((g.2.1.length : Int)).toNat
    rw [h2]
    simp
  · have h1 := (h.non k hk (fun f hf => hn (syn1 f) (List.mem_map.2 ⟨f, hf, rfl⟩))).1
    exact ⟨h1, h1⟩
theorem sorted_split (n : Int) : ∀ fs : List Fi, fs.Pairwise (fun a b => a.1 < b.1) → (∀ f ∈ fs, f.1 ≠ n) → fs.filter (fun f => decide (f.1 < n)) ++ fs.filter (fun f => decide (n < f.1)) = fs
  | [], _, _ => rfl
  | f :: r, hp, hn => by
    obtain ⟨p1, p2⟩ := List.pairwise_cons.1 hp
    have ih := sorted_split n r p2 (fun g hg => hn g (List.mem_cons_of_mem _ hg))
    by_cases h : f.1 < n
    · have h2 : ¬ n < f.1 := by omega
      simp only [List.filter_cons, decide_eq_true h, decide_eq_false h2, if_true, List.cons_append]
      simp [ih]
    · have h0 := hn f (List.mem_cons_self ..)
      have h2 : n < f.1 := by omega
      have e1 : r.filter (fun f => decide (f.1 < n)) = [] := List.filter_eq_nil_iff.2 (fun g hg => by have := p1 g hg; simp; omega)
      have e2 : r.filter (fun f => decide (n < f.1)) = r := List.filter_eq_self.2 (fun g hg => by have := p1 g hg; simp; omega)
      simp only [List.filter_cons, decide_eq_true h2, decide_eq_false h, e1, e2]
      simp
theorem app1_other {n : Int} {b : List Int} : ∀ fs : List Fi, (∀ f ∈ fs, f.1 ≠ n) → fs.map (app1 n b) = fs
  | [], _ => rfl
  | f :: r, h => by
    rw [List.map_cons, app1_other r (fun g hg => h g (List.mem_cons_of_mem _ hg))]
    unfold app1
    rw [if_neg (h f (List.mem_cons_self ..))]
theorem used_app {n : Int} {b : List Int} : ∀ fs : List Fi, fs.Pairwise (fun a b => a.1 < b.1) → used (fs.map (app1 n b)) ≤ used fs + (b.length : Int)
  | [], _ => by simp [used]
  | f :: r, hp => by
    obtain ⟨p1, p2⟩ := List.pairwise_cons.1 hp
    have ih := used_app (n := n) (b := b) r p2
    show ((app1 n b f).2.1.length : Int) + used (r.map (app1 n b)) ≤ (f.2.1.length : Int) + used r + (b.length : Int)
    by_cases h : f.1 = n
    · rw [app1_other r (fun g hg => by have := p1 g hg; omega)]
      unfold app1
      rw [if_pos h]
      simp
      omega
    · unfold app1 at ih ⊢
      rw [if_neg h]
      omega
theorem app1_num (n : Int) (b : List Int) (f : Fi) : (app1 n b f).1 = f.1 := by unfold app1; split <;> rfl
theorem app1_sure (n : Int) (b : List Int) (f : Fi) : (app1 n b f).2.2 = f.2.2 ∧ f.2.1.length ≤ (app1 n b f).2.1.length := by
  unfold app1
  split
  · exact ⟨rfl, by simp⟩
  · exact ⟨rfl, Nat.le_refl _⟩
/-- What one of that number is put among the files for: formed files, of the same bytes, and one of that number. -/
theorem ins_facts {room : Int} (n : Int) (hF : Fmd room fs) : used (ins fs n) = used fs ∧ (ins fs n).Pairwise (fun a b => a.1 < b.1) ∧ (∀ f ∈ ins fs n, f ∈ fs ∨ (f = (n, [], 0) ∧ ∀ g ∈ fs, g.1 ≠ n)) ∧ (∀ f ∈ fs, f ∈ ins fs n) ∧ ∃ f ∈ ins fs n, f.1 = n := by
  unfold ins
  cases he : fnd n fs with
  | some f =>
    refine ⟨rfl, hF.up, fun g hg => .inl hg, fun g hg => hg, f, List.mem_of_find?_eq_some he, ?_⟩
    have := List.find?_some he
    simpa using this
  | none =>
    have hno : ∀ f ∈ fs, f.1 ≠ n := fun f hf => by
      have := List.find?_eq_none.1 he f hf
      simpa using this
    have hs := sorted_split n fs hF.up hno
    refine ⟨?_, ?_, fun f hf => ?_, fun f hf => ?_, (n, [], 0), List.mem_append_right _ (List.mem_cons_self ..), rfl⟩
    · dsimp only
      have e0 : ∀ r : List Fi, used ((n, [], 0) :: r) = used r := fun r => by
        show ((0 : Nat) : Int) + used r = used r
        omega
      have e1 := congrArg used hs
      rw [used_append] at e1
      rw [used_append, e0]
      exact e1
    · dsimp only
      refine List.pairwise_append.2 ⟨hF.up.filter _, List.pairwise_cons.2 ⟨fun g hg => ?_, hF.up.filter _⟩, fun a ha g hg => ?_⟩
      · have := (List.mem_filter.1 hg).2
        simpa using this
      · have h1 : a.1 < n := by simpa using (List.mem_filter.1 ha).2
        rcases List.mem_cons.1 hg with rfl | hg
        · exact h1
        · have h2 : n < g.1 := by simpa using (List.mem_filter.1 hg).2
          omega
    · rcases List.mem_append.1 hf with h1 | h1
      · exact .inl (List.mem_filter.1 h1).1
      · rcases List.mem_cons.1 h1 with rfl | h1
        · exact .inr ⟨rfl, hno⟩
        · exact .inl (List.mem_filter.1 h1).1
    · rw [← hs] at hf
      rcases List.mem_append.1 hf with h1 | h1
      · exact List.mem_append_left _ h1
      · exact List.mem_append_right _ (List.mem_cons_of_mem _ h1)
/-- Bytes are appended to one of the four. -/
theorem Sr.app (h : Sr fs al su) {k : Nat} (hk : k < 4) {b : List Int} (hb : (b.length : Int) ≤ 4096 - used fs) : Sr ((ins fs (k : Int)).map (app1 (k : Int) b)) (fun j => if j = k then al k ++ b else al j) su := by
  have hF := fmd_facts h.fm
  obtain ⟨i1, i2, i3, i4, i5⟩ := ins_facts (k : Int) hF
  refine ⟨fmd_mk2 hF.r0 hF.r1 ?_ (fun f hf => ?_) ?_, fun f hf => ?_, fun j hj hn => ?_⟩
  · have := used_app (n := (k : Int)) (b := b) _ i2
    omega
  · obtain ⟨g, hg, rfl⟩ := List.mem_map.1 hf
    obtain ⟨a1, a2⟩ := app1_sure (k : Int) b g
    rw [app1_num, a1]
    rcases i3 g hg with h1 | ⟨rfl, _⟩
    · have := hF.num g h1
      exact ⟨this.1, this.2.1, this.2.2.1, by omega⟩
    · exact ⟨by show (0 : Int) ≤ (k : Int); omega, by show (k : Int) ≤ 1048576; omega, Int.le_refl _, by show (0 : Int) ≤ _; omega⟩
  · refine List.pairwise_map.2 (i2.imp fun {a c} hac => ?_)
    rw [app1_num, app1_num]
    exact hac
  · obtain ⟨g, hg, rfl⟩ := List.mem_map.1 hf
    rcases i3 g hg with h1 | ⟨rfl, hno⟩
    · obtain ⟨j, hj, e1, e2, e3⟩ := h.has g h1
      refine ⟨j, hj, by rw [app1_num]; exact e1, ?_, ?_⟩
      · unfold app1
        by_cases e : j = k
        · subst e
          rw [if_pos e1, if_pos rfl]
          show g.2.1 ++ b = _
          rw [e2]
        · rw [if_neg (by omega), if_neg e]
          exact e2
      · rw [(app1_sure (k : Int) b g).1]
        by_cases e : j = k
        · subst e
          rw [if_pos rfl, e3]
          have hs := (hF.num g h1).2.2
          rw [List.take_append_of_le_length]
          rw [← e2]
          omega
        · rw [if_neg e]
          exact e3
    · obtain ⟨n1, n2⟩ := h.non k hk hno
      refine ⟨k, hk, by rw [app1_num], ?_, ?_⟩
      · unfold app1
        rw [if_pos rfl, if_pos rfl, n1]
      · rw [(app1_sure (k : Int) b _).1, n2]
        rfl
  · have hjk : j ≠ k := fun e => by
      subst e
      obtain ⟨f, hf, hn2⟩ := i5
      exact hn (app1 (j : Int) b f) (List.mem_map.2 ⟨f, hf, rfl⟩) (by rw [app1_num]; exact hn2)
    rw [if_neg hjk]
    exact h.non j hj (fun f hf => by have := hn (app1 (k : Int) b f) (List.mem_map.2 ⟨f, i4 f hf, rfl⟩); rw [app1_num] at this; exact this)
/-- How much stands in one of the four. -/
theorem Sr.le (h : Sr fs al su) {k : Nat} (hk : k < 4) : (al k).length ≤ 4096 ∧ (su k).length ≤ (al k).length := by
  have hF := fmd_facts h.fm
  by_cases hn : ∀ f ∈ fs, f.1 ≠ (k : Int)
  · obtain ⟨h1, h2⟩ := h.non k hk hn
    rw [h1, h2]
    simp
  · obtain ⟨f, hf, hn⟩ : ∃ f ∈ fs, f.1 = (k : Int) := Classical.byContradiction fun h => hn fun f hf e => h ⟨f, hf, e⟩
    obtain ⟨j, hj, e1, e2, e3⟩ := h.has f hf
    have : j = k := by omega
    subst this
    have h1 := used_mem hf
    have h2 := hF.use
    rw [e2] at h1
    exact ⟨by omega, by rw [e3, List.length_take]; omega⟩
/-- What is left behind a crash, of each of the four: m is the one of which a byte may be another one, the last. -/
structure Cr (fs' : List Fi) (al su : Nat → List Int) (m : Nat) : Prop where
  fm : fmd 4096 fs' = true
  non : ∀ k : Nat, k < 4 → fnd (k : Int) fs' = none → al k = []
  has : ∀ (k : Nat) (f : Fi), k < 4 → fnd (k : Int) fs' = some f → (su k).length ≤ f.2.1.length ∧ f.2.1.length ≤ (al k).length ∧ ∀ i, i < f.2.1.length → f.2.1.getD i 0 ≠ (al k).getD i 0 → k = m ∧ (su k).length ≤ i ∧ i + 1 = f.2.1.length
theorem crsTo_get (keep : Nat) (fs : List Fi) : ∀ (n i : Nat), n ≤ fs.length → i < n → ∃ f, fs[i]? = some f ∧ (crsTo keep fs n)[i]? = some (crs1 (kAt keep fs i) f)
  | 0, i, _, hi => by omega
  | n + 1, i, hn, hi => by
    have hg := List.getElem?_eq_getElem (show n < fs.length by omega)
    have hl := crsTo_len keep fs n (by omega)
    rw [crsTo_step hg]
    by_cases e : i = n
    · subst e
      refine ⟨_, hg, ?_⟩
      have := List.getElem?_concat_length (l := crsTo keep fs i) (a := crs1 (kAt keep fs i) fs[i])
      rw [hl] at this
      exact this
    · obtain ⟨f, h1, h2⟩ := crsTo_get keep fs n i (by omega) (by omega)
      exact ⟨f, h1, by rw [List.getElem?_append_left (by omega)]; exact h2⟩
theorem lstTo_some (keep : Nat) (fs : List Fi) : ∀ (n j : Nat), n ≤ fs.length → lstTo keep fs n = some j → j < n ∧ ∃ f, fs[j]? = some f ∧ 0 < kp1 (kAt keep fs j) f
  | 0, j, _, h => by cases h
  | n + 1, j, hn, h => by
    have hg := List.getElem?_eq_getElem (show n < fs.length by omega)
    rw [lstTo_step hg] at h
    split at h
    · next h1 =>
      injection h with h
      subst h
      exact ⟨Nat.lt_succ_self _, _, hg, h1⟩
    · obtain ⟨h1, h2⟩ := lstTo_some keep fs n j (by omega) h
      exact ⟨by omega, h2⟩
/-- A file behind a crash, at its place. -/
theorem crs_at (keep : Nat) (fs : List Fi) (turn : Int) {i : Nat} {f' : Fi} (h : (atF (turnF turn) (lstTo keep fs fs.length) (crsTo keep fs fs.length))[i]? = some f') :
    ∃ f, fs[i]? = some f ∧ ((f' = crs1 (kAt keep fs i) f) ∨ (lstTo keep fs fs.length = some i ∧ 0 < kp1 (kAt keep fs i) f ∧ f' = turnF turn (crs1 (kAt keep fs i) f))) := by
  have hlen := crsTo_len keep fs fs.length (Nat.le_refl _)
  cases hl : lstTo keep fs fs.length with
  | none =>
    rw [hl] at h
    have h2 : (crsTo keep fs fs.length)[i]? = some f' := h
    have hi := (List.getElem?_eq_some_iff.1 h2).1
    obtain ⟨f, h3, h4⟩ := crsTo_get keep fs fs.length i (Nat.le_refl _) (by omega)
    rw [h2] at h4
    injection h4 with h4
    exact ⟨f, h3, .inl h4⟩
  | some j =>
    rw [hl] at h
    obtain ⟨h1, g, h2, h3⟩ := lstTo_some keep fs fs.length j (Nat.le_refl _) hl
    obtain ⟨g', e1, e2⟩ := crsTo_get keep fs fs.length j (Nat.le_refl _) h1
    rw [h2] at e1
    cases e1
    rw [atF_some e2] at h
    by_cases e : j = i
    · subst e
      rw [List.getElem?_set_self (by omega)] at h
      injection h with h
      exact ⟨g, h2, .inr ⟨rfl, h3, h.symm⟩⟩
    · rw [List.getElem?_set_ne e] at h
      have hi := (List.getElem?_eq_some_iff.1 h).1
      obtain ⟨f, h4, h5⟩ := crsTo_get keep fs fs.length i (Nat.le_refl _) (by omega)
      rw [h] at h5
      injection h5 with h5
      exact ⟨f, h4, .inl h5⟩
theorem turnF_len (t : Int) (f : Fi) : (turnF t f).1 = f.1 ∧ (turnF t f).2.1.length = f.2.1.length ∧ (turnF t f).2.2 = f.2.2 := ⟨rfl, List.length_set, rfl⟩
theorem atF_len (G : Fi → Fi) (o : Option Nat) (l : List Fi) : (atF G o l).length = l.length := by
  cases o with
  | none => rfl
  | some j =>
    show (match l[j]? with | some f => l.set j (G f) | none => l).length = _
    split
    · exact List.length_set
    · rfl
theorem crs1_facts (k : Nat) (f : Fi) (h0 : 0 ≤ f.2.2) (h1 : f.2.2 ≤ (f.2.1.length : Int)) : (crs1 k f).1 = f.1 ∧ (crs1 k f).2.1 = f.2.1.take (f.2.2.toNat + kp1 k f) ∧ (crs1 k f).2.1.length = f.2.2.toNat + kp1 k f ∧ (crs1 k f).2.2 = ((f.2.2.toNat + kp1 k f : Nat) : Int) ∧ f.2.2.toNat + kp1 k f ≤ f.2.1.length := by
  have hk : f.2.2.toNat + kp1 k f ≤ f.2.1.length := by unfold kp1; omega
  refine ⟨rfl, rfl, ?_, rfl, hk⟩
  show (f.2.1.take (f.2.2.toNat + kp1 k f)).length = _
  rw [List.length_take]
  omega
theorem take_getD (l : List Int) {n i : Nat} (hi : i < n) : (l.take n).getD i 0 = l.getD i 0 := by
  rw [List.getD_eq_getElem?_getD, List.getD_eq_getElem?_getD, List.getElem?_take_of_lt hi]
theorem Sr.crash (h : Sr fs al su) (keep turn : Int) (hk : 0 ≤ keep) (ht : 0 ≤ turn ∧ turn ≤ 255) : ∃ fs' m, crsR 4096 fs keep turn = (4096, fs', 0) ∧ Cr fs' al su m := by
  have hF := fmd_facts h.fm
  obtain ⟨K, hK⟩ : ∃ K, keep.toNat = K := ⟨_, rfl⟩
  obtain ⟨fs', hfs⟩ : ∃ fs', atF (turnF turn) (lstTo K fs fs.length) (crsTo K fs fs.length) = fs' := ⟨_, rfl⟩
  have hat : ∀ (i : Nat) (f' : Fi), fs'[i]? = some f' → ∃ f, fs[i]? = some f ∧ ((f' = crs1 (kAt K fs i) f) ∨ (lstTo K fs fs.length = some i ∧ 0 < kp1 (kAt K fs i) f ∧ f' = turnF turn (crs1 (kAt K fs i) f))) := fun i f' hi => crs_at K fs turn (by rw [hfs]; exact hi)
  have hlen : fs'.length = fs.length := by rw [← hfs, atF_len, crsTo_len K fs fs.length (Nat.le_refl _)]
  have hless : ∀ (i : Nat) (f f' : Fi), fs[i]? = some f → fs'[i]? = some f' → Less f f' := fun i f f' h1 h2 => by
    obtain ⟨g, g1, g2⟩ := hat i f' h2
    rw [h1] at g1
    cases g1
    have hs := (hF.num f (List.mem_of_getElem? h1)).2.2
    obtain ⟨c1, c2, c3, c4, c5⟩ := crs1_facts (kAt K fs i) f hs.1 hs.2
    rcases g2 with rfl | ⟨-, -, rfl⟩
    · exact ⟨c1, by omega, by rw [c4]; omega, by rw [c4, c3]; omega⟩
    · obtain ⟨t1, t2, t3⟩ := turnF_len turn (crs1 (kAt K fs i) f)
      exact ⟨by rw [t1, c1], by omega, by rw [t3, c4]; omega, by rw [t3, t2, c4, c3]; omega⟩
  obtain ⟨m, hm⟩ : ∃ m : Nat, ∀ (i : Nat) (f : Fi) (k : Nat), lstTo K fs fs.length = some i → fs[i]? = some f → f.1 = (k : Int) → k = m := by
    cases hl : lstTo K fs fs.length with
    | none => exact ⟨4, fun i f k h => by cases h⟩
    | some j =>
      obtain ⟨h1, g, h2, h3⟩ := lstTo_some K fs fs.length j (Nat.le_refl _) hl
      refine ⟨g.1.toNat, fun i f k e1 e2 e3 => ?_⟩
      injection e1 with e1
      subst e1
      rw [h2] at e2
      cases e2
      omega
  refine ⟨fs', m, ?_, less_fmd hlen hless h.fm, fun k hk hn => ?_, fun k f' hk hf => ?_⟩
  · unfold crsR
    rw [if_pos ⟨h.fm, hk, decide_eq_true ht⟩, hK, hfs]
  · refine (h.non k hk (fun f hf e => ?_)).1
    obtain ⟨i, hi⟩ := List.getElem?_of_mem hf
    have hil := (List.getElem?_eq_some_iff.1 hi).1
    have hg := List.getElem?_eq_getElem (show i < fs'.length by omega)
    have h1 := (hless i f _ hi hg).num
    have h2 := List.find?_eq_none.1 hn _ (List.mem_of_getElem? hg)
    simp at h2
    omega
  · have hmem := List.mem_of_find?_eq_some hf
    have hnum : f'.1 = (k : Int) := by have := List.find?_some hf; simpa using this
    obtain ⟨i, hi⟩ := List.getElem?_of_mem hmem
    obtain ⟨f, g1, g2⟩ := hat i f' hi
    have hl := hless i f f' g1 hi
    obtain ⟨j, hj, e1, e2, e3⟩ := h.has f (List.mem_of_getElem? g1)
    have : j = k := by have := hl.num; omega
    subst this
    have hs := (hF.num f (List.mem_of_getElem? g1)).2.2
    obtain ⟨c1, c2, c3, c4, c5⟩ := crs1_facts (kAt K fs i) f hs.1 hs.2
    have hsl : (su j).length = f.2.2.toNat := by rw [e3, List.length_take, ← e2]; omega
    rcases g2 with rfl | ⟨q1, q2, rfl⟩
    · refine ⟨by omega, by rw [c3, ← e2]; omega, fun u hu hne => absurd ?_ hne⟩
      rw [c2, take_getD _ (by omega), e2]
    · obtain ⟨t1, t2, t3⟩ := turnF_len turn (crs1 (kAt K fs i) f)
      refine ⟨by omega, by rw [t2, c3, ← e2]; omega, fun u hu hne => ?_⟩
      rw [t2, c3] at hu
      by_cases e : u + 1 = f.2.2.toNat + kp1 (kAt K fs i) f
      · exact ⟨hm i f j q1 g1 e1, by omega, by rw [t2, c3]; exact e⟩
      · refine absurd ?_ hne
        show ((crs1 (kAt K fs i) f).2.1.set ((crs1 (kAt K fs i) f).2.1.length - 1) _).getD u 0 = _
        rw [List.getD_eq_getElem?_getD, List.getElem?_set_ne (by omega), ← List.getD_eq_getElem?_getD, c2, take_getD _ (by omega), e2]
end
end Dk
end Go.Proofs.YtkhggofcbdcliaaDoor
namespace Go.Proofs.YtkhggofcbdcliaaDoor
open Go.RowKit

namespace Jn
theorem it_le (l : List Int) : ∀ k, (Fr.it l k).1 ≤ l.length ∧ (Fr.it l k).2.length * 8 ≤ (Fr.it l k).1 ∧ (Fr.Stop l k ∨ k ≤ (Fr.it l k).1)
  | 0 => ⟨Nat.zero_le _, Nat.zero_le _, .inr (Nat.zero_le _)⟩
  | k + 1 => by
    obtain ⟨h1, h2, h3⟩ := it_le l k
    by_cases hs : (Fr.opn (l.drop (Fr.it l k).1)).2.2 = 0
    · obtain ⟨n, e1, e2, e3⟩ := Fr.opn_bounds hs
      rw [List.length_drop] at e3
      have hi : Fr.it l (k + 1) = ((Fr.it l k).1 + n, (Fr.it l k).2 ++ [(Fr.opn (l.drop (Fr.it l k).1)).1]) := by
        show Fr.stp l (Fr.it l k) = _
        unfold Fr.stp
        rw [if_pos hs, e1]
        rfl
      rw [hi]
      refine ⟨by dsimp only; omega, ?_, .inr ?_⟩
      · dsimp only
        rw [List.length_append, List.length_singleton]
        omega
      · dsimp only
        rcases h3 with h3 | h3
        · exact absurd hs h3
        · omega
    · have hi := Fr.it_stays (l := l) (k := k) hs 1
      rw [hi]
      refine ⟨h1, h2, .inl ?_⟩
      unfold Fr.Stop
      rw [hi]
      exact hs
theorem stop_len (l : List Int) : Fr.Stop l (l.length + 1) := by
  obtain ⟨h1, -, h3⟩ := it_le l (l.length + 1)
  rcases h3 with h3 | h3
  · exact h3
  · omega
theorem cut_eq {l : List Int} {k : Nat} (h : Fr.Stop l k) : Fr.it l k = cut l := Fr.it_one h (stop_len l)
theorem cut_le (l : List Int) : (cut l).1 ≤ l.length ∧ (cut l).2.length * 8 ≤ (cut l).1 := by
  obtain ⟨h1, h2, -⟩ := it_le l (l.length + 1)
  exact ⟨h1, h2⟩
/-- A segment, as it goes on (nothing of it sure). -/
def kept (f : Fi) : Fi := (f.1, f.2.1.take (cut f.2.1).1, 0)
theorem scan_cons (f : Fi) (r : List Fi) : scan (f :: r) = if (cut f.2.1).1 < f.2.1.length then ((cut f.2.1).2, [kept f]) else ((cut f.2.1).2 ++ (scan r).1, kept f :: (scan r).2) := rfl
theorem kept_less (f : Fi) : Dk.Less f (kept f) := ⟨rfl, by show (f.2.1.take _).length ≤ _; rw [List.length_take]; omega, Int.le_refl _, by show (0 : Int) ≤ _; omega⟩
theorem scan_less : ∀ fs : List Fi, (scan fs).2.length ≤ fs.length ∧ ∀ (i : Nat) (f f' : Fi), fs[i]? = some f → (scan fs).2[i]? = some f' → Dk.Less f f'
  | [] => ⟨Nat.le_refl _, fun i f f' h => by simp at h⟩
  | g :: r => by
    obtain ⟨h1, h2⟩ := scan_less r
    rw [scan_cons]
    split
    · refine ⟨by simp, fun i f f' e1 e2 => ?_⟩
      cases i with
      | zero => simp at e1 e2; subst e1 e2; exact kept_less _
      | succ i => simp at e2
    · refine ⟨by simpa using h1, fun i f f' e1 e2 => ?_⟩
      cases i with
      | zero => simp at e1 e2; subst e1 e2; exact kept_less _
      | succ i => exact h2 i f f' (by simpa using e1) (by simpa using e2)
theorem fmd_take {room : Int} {fs : List Fi} (h : Dk.fmd room fs = true) (n : Nat) : Dk.fmd room (fs.take n) = true := by
  have hF := Dk.fmd_facts h
  exact Dk.fmd_mk2 hF.r0 hF.r1 (Int.le_trans (Dk.used_take fs n) hF.use) (fun f hf => hF.num f (List.mem_of_mem_take hf)) (hF.up.sublist (List.take_sublist n fs))
theorem scan_fmd {room : Int} {fs : List Fi} (h : Dk.fmd room fs = true) : Dk.fmd room (scan fs).2 = true := by
  obtain ⟨h1, h2⟩ := scan_less fs
  refine Dk.less_fmd (fs := fs.take (scan fs).2.length) (by rw [List.length_take]; omega) (fun i f f' e1 e2 => ?_) (fmd_take h _)
  have hi := (List.getElem?_eq_some_iff.1 e2).1
  rw [List.getElem?_take_of_lt hi] at e1
  exact h2 i f f' e1 e2
end Jn

theorem sliCells_append : ∀ (cs : List (Option Addr × Nat)) (ls : List (List Int)) (cs2 : List (Option Addr × Nat)) (ls2 : List (List Int)), cs.length = ls.length → sliCells (cs ++ cs2) (ls ++ ls2) = sliCells cs ls ++ sliCells cs2 ls2
  | [], [], _, _, _ => rfl
  | [], _ :: _, _, _, h => by simp at h
  | _ :: _, [], _, _, h => by simp at h
  | c :: cs, l :: ls, cs2, ls2, h => by
    simp only [List.cons_append, sliCells]
    rw [sliCells_append cs ls cs2 ls2 (by simpa using h)]
theorem sliCells_len : ∀ (cs : List (Option Addr × Nat)) (ls : List (List Int)), cs.length = ls.length → (sliCells cs ls).length = ls.length
  | [], [], _ => rfl
  | [], _ :: _, h => by simp at h
  | _ :: _, [], h => by simp at h
  | c :: cs, l :: ls, h => by
    simp only [sliCells, List.length_cons]
    rw [sliCells_len cs ls (by simpa using h)]
theorem sliCells_one : ∀ (cs : List (Option Addr × Nat)) (ls : List (List Int)), ∀ u ∈ sliCells cs ls, u.oneCell' = true
  | [], _, u, h => by simp [sliCells] at h
  | _ :: _, [], u, h => by simp [sliCells] at h
  | c :: cs, l :: ls, u, h => by
    simp only [sliCells, List.mem_cons] at h
    rcases h with rfl | h
    · rfl
    · exact sliCells_one cs ls u h
section
variable {w w2 : World} {base : Nat} {v v2 vr : Value} {cs cs2 : List (Option Addr × Nat)} {ls ls2 : List (List Int)}
/-- Rows behind rows. -/
theorem OwnRows.join (h : OwnRows w base v cs ls) (h2 : OwnRows w base v2 cs2 ls2) (hg : w.grownBy w2 v.ownBlock) (hr : w2.ownsRow base 25 1 vr (ls.length + ls2.length) (sliCells cs ls ++ sliCells cs2 ls2)) : OwnRows w2 base vr (cs ++ cs2) (ls ++ ls2) := by
  have keep : ∀ {u : Value} {n : Nat} {xs : List Value}, w.ownsRow base 5 1 u n xs → w2.ownsRow base 5 1 u n xs := fun {u n xs} hu =>
    own_stays hu (fun k hk => hg.block k (own_lt hu k hk) (own_apart hu h.row (by decide) k hk))
  refine ⟨by rw [sliCells_append cs ls cs2 ls2 h.lens, List.length_append]; exact hr, by rw [List.length_append, List.length_append, h.lens, h2.lens], fun k hk => ?_, fun l hl => (List.mem_append.1 hl).elim (h.byte l) (h2.byte l)⟩
  rw [List.length_append] at hk
  by_cases e : k < ls.length
  · have e1 : (cs ++ cs2).getD k (none, 0) = cs.getD k (none, 0) := by rw [List.getD_eq_getElem?_getD, List.getD_eq_getElem?_getD, List.getElem?_append_left (by rw [h.lens]; exact e)]
    have e2 : (ls ++ ls2).getD k [] = ls.getD k [] := by rw [List.getD_eq_getElem?_getD, List.getD_eq_getElem?_getD, List.getElem?_append_left e]
    rw [e1, e2]
    exact keep (h.each k e)
  · have e1 : (cs ++ cs2).getD k (none, 0) = cs2.getD (k - ls.length) (none, 0) := by rw [List.getD_eq_getElem?_getD, List.getD_eq_getElem?_getD, List.getElem?_append_right (by rw [h.lens]; omega), h.lens]
    have e2 : (ls ++ ls2).getD k [] = ls2.getD (k - ls.length) [] := by rw [List.getD_eq_getElem?_getD, List.getD_eq_getElem?_getD, List.getElem?_append_right (by omega)]
    rw [e1, e2]
    exact keep (h2.each (k - ls.length) (by omega))
theorem OwnRows.lower {base' : Nat} (h : OwnRows w base v cs ls) (hb : base' ≤ base) : OwnRows w base' v cs ls := ⟨own_base h.row hb, h.lens, fun k hk => own_base (h.each k hk) hb, h.byte⟩
/-- Rows stay where what lies below them is turned. -/
theorem OwnRows.above {lo hi : Nat} (h : OwnRows w base v cs ls) (hk : Kept lo hi w w2) (hb : hi ≤ base) : OwnRows w2 base v cs ls :=
  ⟨own_stays h.row fun k hkb => hk.same k (own_lt h.row k hkb) (.inr (by have := own_ge h.row k hkb; omega)), h.lens, fun j hj => own_stays (h.each j hj) fun k hkb => hk.same k (own_lt (h.each j hj) k hkb) (.inr (by have := own_ge (h.each j hj) k hkb; omega)), h.byte⟩
end
end Go.Proofs.YtkhggofcbdcliaaDoor
