/-
  What telltaleref04's Told answers.
  What telltaleref04's Of answers.
  Worlds that agree but for two blocks and for what is new. Nothing of the program is imported.
  What telltaleref04's Through answers.
-/
import Derived.Test.YtoaclofobfaflaaG15
import Derived.Test.YtoaclofobfaflaaG14
import Derived.Deep.AppendLies
import Derived.Deep.RegionLaw
namespace Go.Proofs.Ytoaclofobfaflaa
open Go.RowKit

namespace Nt
/-- What a note says of an object: its write, is it sharp, the error's number. -/
def told (n : Note) (o : Int) : Wr × Bool × Int :=
  if fmd n = true ∧ 0 ≤ o ∧ o ≤ 255 then (if (at_ n.ws o).2 = true then ((at_ n.ws o).1, true, 0) else (zeroW, !inOf n.b o, 8)) else (zeroW, false, 1)
def toldV (r : Wr × Bool × Int) : Value := .tuple #[wrV r.1, .bool r.2.1, .int .i64 r.2.2]
end Nt

/-- Four cells of a write are stored, one after the other. -/
theorem wr_puts {w : World} {g : Nat} {t : TypeId} {y0 y1 y2 y3 : Value} (hB : Blk w g t #[y0, y1, y2, y3]) (x : Wr) : Blk ((((w.setCell ⟨g, 0, none⟩ (.int .i64 x.1)).setCell ⟨g, 1, none⟩ (.int .i64 x.2.1)).setCell ⟨g, 2, none⟩ (.int .i64 x.2.2.1)).setCell ⟨g, 3, none⟩ (.bool x.2.2.2)) g t (Nt.wrArr x) := (((hB.put 0 _).put 1 _).put 2 _).put 3 _
theorem below_puts {w0 w : World} {g : Nat} (hb : Below w0.heap.size w0 w) (hg : w0.heap.size ≤ g) (x0 x1 x2 x3 : Value) : Below w0.heap.size w0 ((((w.setCell ⟨g, 0, none⟩ x0).setCell ⟨g, 1, none⟩ x1).setCell ⟨g, 2, none⟩ x2).setCell ⟨g, 3, none⟩ x3) :=
  (((hb.setCell (p := ⟨g, 0, none⟩) hg _).setCell (p := ⟨g, 1, none⟩) hg _).setCell (p := ⟨g, 2, none⟩) hg _).setCell (p := ⟨g, 3, none⟩) hg _
theorem wr_cells {w : World} {g : Nat} {t : TypeId} {x : Wr} (h : Blk w g t (Nt.wrArr x)) : (w.cell? ⟨g, 0, none⟩ = some (.int .i64 x.1) ∧ w.cell? ⟨g, 1, none⟩ = some (.int .i64 x.2.1) ∧ w.cell? ⟨g, 2, none⟩ = some (.int .i64 x.2.2.1) ∧ w.cell? ⟨g, 3, none⟩ = some (.bool x.2.2.2)) ∧
    (w.frozen? ⟨g, 0, none⟩ = false ∧ w.frozen? ⟨g, 1, none⟩ = false ∧ w.frozen? ⟨g, 2, none⟩ = false ∧ w.frozen? ⟨g, 3, none⟩ = false) := ⟨⟨h.cell rfl, h.cell rfl, h.cell rfl, h.cell rfl⟩, h.free 0, h.free 1, h.free 2, h.free 3⟩

set_option maxRecDepth 100000 in
set_option maxHeartbeats 3200000 in
theorem ntold_any (S E B V : Option Addr) (cs ce cb cv : Nat) (n : Note) (o : Int) (w : World) (h1 : NoteAt w S E B V cs ce cb cv n) :
    Calls Try.prog 24 #[.agg (noteCells S E B V cs ce cb cv n), .int .i64 o] w (Says (Nt.toldV (Nt.told n o)) w) := by
  obtain ⟨W, hW⟩ : ∃ W, (w.alloc (.cells (noteCells S E B V cs ce cb cv n) 26)).alloc (.cells #[.int .i64 0, .int .i64 0, .int .i64 0, .bool false] 35) = W := ⟨_, rfl⟩
  have hb0 : Below w.heap.size w W := by rw [← hW]; exact below_new (below_new (Below.refl _ _) _) _
  have hB0 : Blk W w.heap.size 26 (noteCells S E B V cs ce cb cv n) := by rw [← hW]; exact (Blk.new w _ _).alloc _
  have hB1 : Blk W (w.heap.size + 1) 35 (Nt.wrArr Nt.zeroW) := by
    rw [← hW, show w.heap.size + 1 = (w.alloc (.cells (noteCells S E B V cs ce cb cv n) 26)).heap.size from by simp]
    exact Blk.new _ _ _
  obtain ⟨c0, c1, c2, c3⟩ := note_cells hB0
  have p0 := c0
  have p1 := c1
  have p2 := c2
  have p3 := c3
  rw [← hW] at p0 p1 p2 p3
  have HN := Lib.hid (h1.later hb0)
  have HB1 := Lib.hid hB1
  have N0 := Lib.hid (nformed_any S E B V cs ce cb cv n W (h1.later hb0))
  have HT := Lib.hid (show Nt.told n o = if Nt.fmd n = true ∧ 0 ≤ o ∧ o ≤ 255 then (if (Nt.at_ n.ws o).2 = true then ((Nt.at_ n.ws o).1, true, 0) else (Nt.zeroW, !inOf n.b o, 8)) else (Nt.zeroW, false, 1) from rfl)
  obtain ⟨x0, hx0⟩ : ∃ x, Nt.fmd n = x := ⟨_, rfl⟩
  rw [hx0] at N0 HT
  have HW := Lib.hid hW
  clear hW hB0 hB1 h1 hx0
  have hcs : (x0 = false) ∨ (x0 = true ∧ decide (o < 0) = true ∧ o < 0) ∨ (x0 = true ∧ decide (o < 0) = false ∧ 0 ≤ o ∧ decide (255 < o) = true ∧ 255 < o) ∨ (x0 = true ∧ decide (o < 0) = false ∧ 0 ≤ o ∧ decide (255 < o) = false ∧ o ≤ 255) := by
    cases x0
    · exact .inl rfl
    · by_cases h1 : o < 0
      · exact .inr (.inl ⟨rfl, decide_eq_true h1, h1⟩)
      · by_cases h2 : 255 < o
        · exact .inr (.inr (.inl ⟨rfl, decide_eq_false h1, by omega, decide_eq_true h2, h2⟩))
        · exact .inr (.inr (.inr ⟨rfl, decide_eq_false h1, by omega, decide_eq_false h2, by omega⟩))
  have fin : ∀ wx, Blk wx (w.heap.size + 1) 35 (Nt.wrArr Nt.zeroW) → True := fun _ _ => trivial
  clear fin
  rcases hcs with rfl | ⟨rfl, d1, d2⟩ | ⟨rfl, d1, d2, d3, d4⟩ | hyes
  case inr.inr.inr =>
    obtain ⟨rfl, d1, d2, d3, d4⟩ := hyes
    have HT2 := Lib.hid (HT.out.trans (if_pos ⟨rfl, d2, d4⟩))
    obtain ⟨⟨x, ok⟩, hat⟩ : ∃ r, Nt.at_ n.ws o = r := ⟨_, rfl⟩
    rw [hat] at HT2
    have na := fun wx (hb : Below W.heap.size W wx) => nat_any V cv n.ws o wx (HN.out.hv.later hb)
    rw [hat] at na
    have NA := Lib.hid (fun wx (hb : Below W.heap.size W wx) => (show Calls Try.prog 52 #[.slice V n.ws.length cv, .int .i64 o] wx (Says (.tuple #[.agg #[.int .i64 x.1, .int .i64 x.2.1, .int .i64 x.2.2.1, .bool x.2.2.2], .bool ok]) wx) from na wx hb))
    have NH := Lib.hid (fun wx (hb : Below W.heap.size W wx) => shas_any B cb n.b o wx (HN.out.hb.later hb))
    obtain ⟨ib, hib⟩ : ∃ ib, inOf n.b o = ib := ⟨_, rfl⟩
    rw [hib] at NH HT2
    clear na hat hib
    go_enter Try.func24, Try.ntmps24
    go_wp2_with fail
    rw [HW.out]
    refine N0.out.mono ?_
    rintro e w1 ⟨rfl, b1⟩
    have q3 := cell_later b1 c3
    go_wp2_with fail
    refine (NA.out _ b1).mono ?_
    rintro e w2 ⟨rfl, b2⟩
    have bb2 := below_on b1 b2
    have hq := (HB1.out.later bb2).alloc (.cells #[.int .i64 x.1, .int .i64 x.2.1, .int .i64 x.2.2.1, .bool x.2.2.2] 35)
    have b3 := below_new bb2 (.cells #[.int .i64 x.1, .int .i64 x.2.1, .int .i64 x.2.2.1, .bool x.2.2.2] 35)
    have u2 := cell_later b3 c2
    cases ok with
    | true =>
      obtain ⟨⟨z0, z1, z2, z3⟩, y0, y1, y2, y3⟩ := wr_cells hq
      have HQ := Lib.hid hq
      clear hq
      go_wp2
      exact bodyPost_ret (v := Nt.toldV (x, true, 0)) (results_cell_tmp2 (p := 4) (t1 := 5) (t2 := 6) (ty := 35) rfl _ _ (w.heap.size + 1) 35 (Nt.wrArr x) _ rfl (wr_puts HQ.out x) Try.underlying35 rfl infoW4) rfl ⟨by rw [HT2.out]; rfl, below_puts (below_on hb0 b3) (by omega) _ _ _ _⟩
    | false =>
      have HQ0 := Lib.hid hq
      clear hq
      go_wp2_with fail
      refine (NH.out _ b3).mono ?_
      rintro e w4 ⟨rfl, b4⟩
      have hq := HQ0.out.later b4
      obtain ⟨⟨z0, z1, z2, z3⟩, y0, y1, y2, y3⟩ := wr_cells hq
      have HQ := Lib.hid hq
      clear hq
      go_wp2
      exact bodyPost_ret (v := Nt.toldV (Nt.zeroW, !ib, 8)) (results_cell_tmp2 (p := 4) (t1 := 5) (t2 := 6) (ty := 35) rfl _ _ (w.heap.size + 1) 35 (Nt.wrArr Nt.zeroW) _ rfl (wr_puts HQ.out Nt.zeroW) Try.underlying35 rfl infoW4) rfl ⟨by rw [HT2.out]; rfl, below_puts (below_on hb0 (below_on b3 b4)) (by omega) _ _ _ _⟩
  all_goals
    have HT2 := Lib.hid (HT.out.trans (if_neg (fun h => by first | (cases h.1; done) | omega)))
    go_enter Try.func24, Try.ntmps24
    go_wp2_with fail
    rw [HW.out]
    refine N0.out.mono ?_
    rintro e w1 ⟨rfl, b1⟩
    have hq := HB1.out.later b1
    obtain ⟨⟨z0, z1, z2, z3⟩, y0, y1, y2, y3⟩ := wr_cells hq
    have HQ := Lib.hid hq
    clear hq
    go_wp2
    exact bodyPost_ret (v := Nt.toldV (Nt.zeroW, false, 1)) (results_cell_tmp2 (p := 4) (t1 := 5) (t2 := 6) (ty := 35) rfl _ _ (w.heap.size + 1) 35 (Nt.wrArr Nt.zeroW) _ rfl (wr_puts HQ.out Nt.zeroW) Try.underlying35 rfl infoW4) rfl ⟨by rw [HT2.out], below_puts (below_on hb0 b1) (by omega) _ _ _ _⟩

end Go.Proofs.Ytoaclofobfaflaa
namespace Go.Proofs.Ytoaclofobfaflaa
open Go.RowKit

/-- The empty note. -/
def noNote : Note := ⟨[], [], [], []⟩
theorem noNote_at (w : World) : NoteAt w none none none none 0 0 0 0 noNote := ⟨OneL.nil, OneL.nil, OneL.nil, OneW.nil⟩
theorem one_write {w : World} {g : Nat} {t : TypeId} {y : Wr} (hB : Blk w g t (Nt.wrArr y)) : OneW w (some ⟨g, 0, none⟩) 1 [y] :=
  ⟨Nat.le_refl _, (by unfold maxLen; omega), (fun h => by cases h), fun _ => ⟨g, 0, rfl, fun j u hu => by
    rw [Nat.zero_add]
    exact hB.cell (by simpa [Nt.wrCells, Nt.wrCell, Nt.wrArr] using hu)⟩⟩
/-- The note of one write, or an error's number. -/
def ofN (l : List (Int × Int)) (y : Wr) : Note × Int :=
  if (Ve.fmd l = true ∧ St.rgt y.1 y.2.1 = true) ∧ (0 ≤ y.2.2.1 ∧ y.2.2.1 ≤ 255) ∧ hasOf l y.1 y.2.1 = false then (⟨l, Ve.joinL [l, [(y.1, y.2.1)]], [], [y]⟩, 0) else (noNote, 1)

/-- Four slices of a note are stored, one after the other. -/
theorem nt_puts {w : World} {g : Nat} {t : TypeId} {y0 y1 y2 y3 : Value} (hB : Blk w g t #[y0, y1, y2, y3]) (S E B V : Option Addr) (cs ce cb cv : Nat) (n : Note) : Blk ((((w.setCell ⟨g, 0, none⟩ (.slice S n.s.length cs)).setCell ⟨g, 1, none⟩ (.slice E n.e.length ce)).setCell ⟨g, 2, none⟩ (.slice B n.b.length cb)).setCell ⟨g, 3, none⟩ (.slice V n.ws.length cv)) g t (noteCells S E B V cs ce cb cv n) := (((hB.put 0 _).put 1 _).put 2 _).put 3 _
theorem nt_cells {w : World} {g : Nat} {t : TypeId} {y0 y1 y2 y3 : Value} (h : Blk w g t #[y0, y1, y2, y3]) : (w.cell? ⟨g, 0, none⟩ = some y0 ∧ w.cell? ⟨g, 1, none⟩ = some y1 ∧ w.cell? ⟨g, 2, none⟩ = some y2 ∧ w.cell? ⟨g, 3, none⟩ = some y3) ∧
    (w.frozen? ⟨g, 0, none⟩ = false ∧ w.frozen? ⟨g, 1, none⟩ = false ∧ w.frozen? ⟨g, 2, none⟩ = false ∧ w.frozen? ⟨g, 3, none⟩ = false) := ⟨⟨h.cell rfl, h.cell rfl, h.cell rfl, h.cell rfl⟩, h.free 0, h.free 1, h.free 2, h.free 3⟩

set_option maxRecDepth 100000 in
set_option maxHeartbeats 6400000 in
theorem nof_any (A : Option Addr) (c : Nat) (l : List (Int × Int)) (y : Wr) (w : World) (hl16 : l.length * 16 ≤ 140737488355328) (h1 : OneL w A c l) :
    Calls Try.prog 21 #[.slice A l.length c, .agg (Nt.wrArr y)] w (AnsNE (ofN l y).1 (ofN l y).2 w) := by
  obtain ⟨W, hW⟩ : ∃ W, (w.alloc (.cells (Nt.wrArr y) 35)).alloc (.cells #[.slice none 0 0, .slice none 0 0, .slice none 0 0, .slice none 0 0] 26) = W := ⟨_, rfl⟩
  have hb0 : Below w.heap.size w W := by rw [← hW]; exact below_new (below_new (Below.refl _ _) _) _
  have hB0 : Blk W w.heap.size 35 (Nt.wrArr y) := by rw [← hW]; exact (Blk.new w _ _).alloc _
  have hB1 : Blk W (w.heap.size + 1) 26 #[.slice none 0 0, .slice none 0 0, .slice none 0 0, .slice none 0 0] := by
    rw [← hW, show w.heap.size + 1 = (w.alloc (.cells (Nt.wrArr y) 35)).heap.size from by simp]
    exact Blk.new _ _ _
  obtain ⟨⟨c0, c1, c2, c3⟩, -⟩ := wr_cells hB0
  have HB1 := Lib.hid hB1
  have hL := h1.later hb0
  have N0 := Lib.hid (rformed_any A c l W hL.len hL.stamps)
  have N1 := Lib.hid (fun wx => rright_any y.1 y.2.1 wx)
  have N2 := Lib.hid (fun wx (hb : Below W.heap.size W wx) => rhas_any A c l y.1 y.2.1 wx hL.len (hL.later hb).stamps)
  have HL := Lib.hid hL
  have HT := Lib.hid (show ofN l y = if (Ve.fmd l = true ∧ St.rgt y.1 y.2.1 = true) ∧ (0 ≤ y.2.2.1 ∧ y.2.2.1 ≤ 255) ∧ hasOf l y.1 y.2.1 = false then (⟨l, Ve.joinL [l, [(y.1, y.2.1)]], [], [y]⟩, 0) else (noNote, 1) from rfl)
  obtain ⟨x0, hx0⟩ : ∃ x, Ve.fmd l = x := ⟨_, rfl⟩
  obtain ⟨x1, hx1⟩ : ∃ x, St.rgt y.1 y.2.1 = x := ⟨_, rfl⟩
  obtain ⟨x2, hx2⟩ : ∃ x, hasOf l y.1 y.2.1 = x := ⟨_, rfl⟩
  rw [hx0] at N0 HT
  rw [hx1] at N1 HT
  rw [hx2] at N2 HT
  have HW0 := Lib.hid hW
  clear hW hB0 hB1 h1 hL hx0 hx1 hx2
  have fin : ∀ w1, Below W.heap.size W w1 → ofN l y = (noNote, 1) → AnsNE (ofN l y).1 (ofN l y).2 w (.returned (.tuple #[.agg (noteCells none none none none 0 0 0 0 noNote), .int .i64 1])) ((((w1.setCell ⟨w.heap.size + 1, 0, none⟩ (.slice none 0 0)).setCell ⟨w.heap.size + 1, 1, none⟩ (.slice none 0 0)).setCell ⟨w.heap.size + 1, 2, none⟩ (.slice none 0 0)).setCell ⟨w.heap.size + 1, 3, none⟩ (.slice none 0 0)) := fun w1 hb he => by
    rw [he]
    exact ⟨_, _, _, _, _, _, _, _, rfl, noNote_at _, below_puts (below_on hb0 hb) (by omega) _ _ _ _⟩
  have FIN := Lib.hid fin
  clear fin
  have hcs : (x0 = false) ∨ (x0 = true ∧ x1 = false) ∨ (x0 = true ∧ x1 = true ∧ decide (y.2.2.1 < 0) = true ∧ y.2.2.1 < 0) ∨ (x0 = true ∧ x1 = true ∧ decide (y.2.2.1 < 0) = false ∧ 0 ≤ y.2.2.1 ∧ decide (255 < y.2.2.1) = true ∧ 255 < y.2.2.1) ∨ (x0 = true ∧ x1 = true ∧ decide (y.2.2.1 < 0) = false ∧ 0 ≤ y.2.2.1 ∧ decide (255 < y.2.2.1) = false ∧ y.2.2.1 ≤ 255 ∧ x2 = true) ∨ (x0 = true ∧ x1 = true ∧ decide (y.2.2.1 < 0) = false ∧ 0 ≤ y.2.2.1 ∧ decide (255 < y.2.2.1) = false ∧ y.2.2.1 ≤ 255 ∧ x2 = false) := by
    cases x0
    · exact .inl rfl
    · cases x1
      · exact .inr (.inl ⟨rfl, rfl⟩)
      · by_cases h1 : y.2.2.1 < 0
        · exact .inr (.inr (.inl ⟨rfl, rfl, decide_eq_true h1, h1⟩))
        · by_cases h2 : 255 < y.2.2.1
          · exact .inr (.inr (.inr (.inl ⟨rfl, rfl, decide_eq_false h1, by omega, decide_eq_true h2, h2⟩)))
          · cases x2
            · exact .inr (.inr (.inr (.inr (.inr ⟨rfl, rfl, decide_eq_false h1, by omega, decide_eq_false h2, by omega, rfl⟩))))
            · exact .inr (.inr (.inr (.inr (.inl ⟨rfl, rfl, decide_eq_false h1, by omega, decide_eq_false h2, by omega, rfl⟩))))
  rcases hcs with rfl | ⟨rfl, rfl⟩ | ⟨rfl, rfl, d1, d2⟩ | ⟨rfl, rfl, d1, d2, d3, d4⟩ | ⟨rfl, rfl, d1, d2, d3, d4, rfl⟩ | ⟨rfl, rfl, d1, d2, d3, d4, rfl⟩
  · have HT2 := Lib.hid (HT.out.trans (if_neg (fun h => by cases h.1.1)))
    go_enter Try.func21, Try.ntmps21
    go_wp2_with fail
    rw [HW0.out]
    refine N0.out.mono ?_
    rintro e w1 ⟨rfl, b1⟩
    have hq := HB1.out.later b1
    obtain ⟨⟨z0, z1, z2, z3⟩, r0, r1, r2, r3⟩ := nt_cells hq
    have HQ := Lib.hid hq
    clear hq
    go_wp2
    exact bodyPost_ret (results_cell_tmp (p := 4) (t1 := 5) (ty := 26) rfl _ _ (w.heap.size + 1) 26 (noteCells none none none none 0 0 0 0 noNote) _ rfl (nt_puts HQ.out none none none none 0 0 0 0 noNote) Try.underlying26 rfl infoNt) rfl (FIN.out _ b1 HT2.out)
  · have HT2 := Lib.hid (HT.out.trans (if_neg (fun h => by cases h.1.2)))
    go_enter Try.func21, Try.ntmps21
    go_wp2_with fail
    rw [HW0.out]
    refine N0.out.mono ?_
    rintro e w1 ⟨rfl, b1⟩
    have m0 := cell_later b1 c0
    have m1 := cell_later b1 c1
    go_wp2_with fail
    refine (N1.out _).mono ?_
    rintro e w2 ⟨rfl, b2⟩
    have bb2 := below_on b1 b2
    have hq := HB1.out.later bb2
    obtain ⟨⟨z0, z1, z2, z3⟩, r0, r1, r2, r3⟩ := nt_cells hq
    have HQ := Lib.hid hq
    clear hq
    go_wp2
    exact bodyPost_ret (results_cell_tmp (p := 4) (t1 := 5) (ty := 26) rfl _ _ (w.heap.size + 1) 26 (noteCells none none none none 0 0 0 0 noNote) _ rfl (nt_puts HQ.out none none none none 0 0 0 0 noNote) Try.underlying26 rfl infoNt) rfl (FIN.out _ bb2 HT2.out)
  · have HT2 := Lib.hid (HT.out.trans (if_neg (fun h => by have := h.2.1.1; omega)))
    go_enter Try.func21, Try.ntmps21
    go_wp2_with fail
    rw [HW0.out]
    refine N0.out.mono ?_
    rintro e w1 ⟨rfl, b1⟩
    have m0 := cell_later b1 c0
    have m1 := cell_later b1 c1
    go_wp2_with fail
    refine (N1.out _).mono ?_
    rintro e w2 ⟨rfl, b2⟩
    have bb2 := below_on b1 b2
    have m2 := cell_later bb2 c2
    have m00 := cell_later bb2 c0
    have m11 := cell_later bb2 c1
    have hq := HB1.out.later bb2
    obtain ⟨⟨z0, z1, z2, z3⟩, r0, r1, r2, r3⟩ := nt_cells hq
    have HQ := Lib.hid hq
    clear hq
    go_wp2
    exact bodyPost_ret (results_cell_tmp (p := 4) (t1 := 5) (ty := 26) rfl _ _ (w.heap.size + 1) 26 (noteCells none none none none 0 0 0 0 noNote) _ rfl (nt_puts HQ.out none none none none 0 0 0 0 noNote) Try.underlying26 rfl infoNt) rfl (FIN.out _ bb2 HT2.out)
  · have HT2 := Lib.hid (HT.out.trans (if_neg (fun h => by have := h.2.1.2; omega)))
    go_enter Try.func21, Try.ntmps21
    go_wp2_with fail
    rw [HW0.out]
    refine N0.out.mono ?_
    rintro e w1 ⟨rfl, b1⟩
    have m0 := cell_later b1 c0
    have m1 := cell_later b1 c1
    go_wp2_with fail
    refine (N1.out _).mono ?_
    rintro e w2 ⟨rfl, b2⟩
    have bb2 := below_on b1 b2
    have m2 := cell_later bb2 c2
    have m00 := cell_later bb2 c0
    have m11 := cell_later bb2 c1
    have hq := HB1.out.later bb2
    obtain ⟨⟨z0, z1, z2, z3⟩, r0, r1, r2, r3⟩ := nt_cells hq
    have HQ := Lib.hid hq
    clear hq
    go_wp2
    exact bodyPost_ret (results_cell_tmp (p := 4) (t1 := 5) (ty := 26) rfl _ _ (w.heap.size + 1) 26 (noteCells none none none none 0 0 0 0 noNote) _ rfl (nt_puts HQ.out none none none none 0 0 0 0 noNote) Try.underlying26 rfl infoNt) rfl (FIN.out _ bb2 HT2.out)
  · have HT2 := Lib.hid (HT.out.trans (if_neg (fun h => by cases h.2.2)))
    go_enter Try.func21, Try.ntmps21
    go_wp2_with fail
    rw [HW0.out]
    refine N0.out.mono ?_
    rintro e w1 ⟨rfl, b1⟩
    have m0 := cell_later b1 c0
    have m1 := cell_later b1 c1
    go_wp2_with fail
    refine (N1.out _).mono ?_
    rintro e w2 ⟨rfl, b2⟩
    have bb2 := below_on b1 b2
    have m2 := cell_later bb2 c2
    have m00 := cell_later bb2 c0
    have m11 := cell_later bb2 c1
    go_wp2_with fail
    refine (N2.out _ bb2).mono ?_
    rintro e w3 ⟨rfl, b3⟩
    have bb3 := below_on bb2 b3
    have hq := HB1.out.later bb3
    obtain ⟨⟨z0, z1, z2, z3⟩, r0, r1, r2, r3⟩ := nt_cells hq
    have HQ := Lib.hid hq
    clear hq
    go_wp2
    exact bodyPost_ret (results_cell_tmp (p := 4) (t1 := 5) (ty := 26) rfl _ _ (w.heap.size + 1) 26 (noteCells none none none none 0 0 0 0 noNote) _ rfl (nt_puts HQ.out none none none none 0 0 0 0 noNote) Try.underlying26 rfl infoNt) rfl (FIN.out _ bb3 HT2.out)
  · have HT2 := Lib.hid (HT.out.trans (if_pos ⟨⟨rfl, rfl⟩, ⟨d2, d4⟩, rfl⟩))
    go_enter Try.func21, Try.ntmps21
    go_wp2_with fail
    rw [HW0.out]
    refine N0.out.mono ?_
    rintro e w1 ⟨rfl, b1⟩
    have m0 := cell_later b1 c0
    have m1 := cell_later b1 c1
    go_wp2_with fail
    refine (N1.out _).mono ?_
    rintro e w2 ⟨rfl, b2⟩
    have bb2 := below_on b1 b2
    have m2 := cell_later bb2 c2
    have m00 := cell_later bb2 c0
    have m11 := cell_later bb2 c1
    go_wp2_with fail
    refine (N2.out _ bb2).mono ?_
    rintro e w3 ⟨rfl, b3⟩
    have bb3 := below_on bb2 b3
    go_wp2_with fail
    have p0 := cell_later bb3 c0
    have p1 := cell_later bb3 c1
    have p2 := cell_later bb3 c2
    have p3 := cell_later bb3 c3
    have hL3 := HL.out.later bb3
    have NC := Lib.hid (fun wx (hb : Below w3.heap.size w3 wx) => (rcopy_any A c l wx hl16 (hL3.later hb).2.2.1 (hL3.later hb).2.2.2).mono fun _ _ hg => hg.one)
    have NW := Lib.hid (fun wx (hb : Below w3.heap.size w3 wx) => (rwith_any A c l y.1 y.2.1 wx (hL3.later hb)).mono fun _ _ hg => hg.one)
    clear hL3
    refine wp_region_facts 8 (by kernel_rfl) (by kernel_rfl)
      (fun v => { tmps := #[.slice A l.length c, .agg (Nt.wrArr y), undef, .pointer (some ⟨w.heap.size, 0, none⟩), .pointer (some ⟨w.heap.size + 1, 0, none⟩), .int .i64 0, .slice A l.length c, .bool true, .bool false, .bool false, .pointer (some ⟨w.heap.size, 0, none⟩), .agg #[.int .i64 y.1, .int .i64 y.2.1], .bool true, .bool false, .bool false, .bool false, .pointer (some ⟨w.heap.size, 2, none⟩), .int .i64 y.2.2.1, .bool false, .bool false, .bool false, .pointer (some ⟨w.heap.size, 2, none⟩), .int .i64 y.2.2.1, .bool false, .bool false, .bool false, .slice A l.length c, .pointer (some ⟨w.heap.size, 0, none⟩), .agg #[.int .i64 y.1, .int .i64 y.2.1], .bool false, .bool false, undef, v 0, v 1, v 2, v 3, v 4, v 5, v 6, v 7, undef], defers := [] }) (fun _ => undef)
      (fun i x wx => match i with
        | 0 => x = .slice A l.length c
        | 1 => ∃ A' c', x = .slice A' l.length c' ∧ OneL wx A' c' l
        | 2 => x = .slice A l.length c
        | 3 => x = .pointer (some ⟨w.heap.size, 0, none⟩)
        | 4 => x = .agg #[.int .i64 y.1, .int .i64 y.2.1]
        | 5 => ∃ A' c', x = .slice A' (Ve.joinL [l, [(y.1, y.2.1)]]).length c' ∧ OneL wx A' c' (Ve.joinL [l, [(y.1, y.2.1)]])
        | 6 => x = .agg #[.int .i64 y.1, .int .i64 y.2.1, .int .i64 y.2.2.1, .bool y.2.2.2]
        | 7 => ∃ A c, x = .slice A [y].length c ∧ OneW wx A c [y]
        | _ => True)
      (fun w1 w2 => Below w1.heap.size w1 w2) (fun h1 h2 => below_on h1 h2) (fun _ => Below.refl _ _) (Below.drew (Below.refl _ _)) ?stab ?step ?done
    case stab =>
      rintro i x w1 w2 h hb
      match i, h with
      | 0, h => exact h
      | 1, h => obtain ⟨A, c, h1, h2⟩ := h; exact ⟨A, c, h1, h2.later hb⟩
      | 2, h => exact h
      | 3, h => exact h
      | 4, h => exact h
      | 5, h => obtain ⟨A, c, h1, h2⟩ := h; exact ⟨A, c, h1, h2.later hb⟩
      | 6, h => exact h
      | 7, h => obtain ⟨A, c, h1, h2⟩ := h; exact ⟨A, c, h1, h2.later hb⟩
      | i + 8, _ => trivial
    case step =>
      intro i hi v w' hb hd
      match i, hi with
      | 0, _ =>
        refine wpOp_one rfl ?_
        clear hd
        go_wp2
        exact ⟨_, by simp [upd]; done, Below.refl _ _, rfl⟩
      | 1, _ =>
        have h0 : v 0 = _ := hd 0 (List.elem_iff.1 (by kernel_rfl))
        refine wpOp_one rfl ?_
        clear hd
        rw [h0]
        go_wp2_with fail
        refine (NC.out _ hb).mono ?_
        rintro e w'' hg
        obtain ⟨A, c, rfl, ho, b⟩ := hg
        go_wp2
        exact ⟨_, by simp [upd, h0]; done, b, A, c, rfl, ho⟩
      | 2, _ =>
        refine wpOp_one rfl ?_
        clear hd
        go_wp2
        exact ⟨_, by simp [upd]; done, Below.refl _ _, rfl⟩
      | 3, _ =>
        refine wpOp_one rfl ?_
        clear hd
        go_wp2
        exact ⟨_, by simp [upd]; done, Below.refl _ _, rfl⟩
      | 4, _ =>
        have h3 : v 3 = _ := hd 3 (List.elem_iff.1 (by kernel_rfl))
        refine wpOp_one rfl ?_
        clear hd
        rw [h3]
        have q0 := cell_later hb p0
        have q1 := cell_later hb p1
        go_wp2
        exact ⟨_, by simp [upd, h3]; done, Below.refl _ _, rfl⟩
      | 5, _ =>
        have h2 : v 2 = _ := hd 2 (List.elem_iff.1 (by kernel_rfl))
        have h4 : v 4 = _ := hd 4 (List.elem_iff.1 (by kernel_rfl))
        refine wpOp_one rfl ?_
        clear hd
        rw [h2, h4]
        go_wp2_with fail
        refine (NW.out _ hb).mono ?_
        rintro e w'' hg
        obtain ⟨A, c, rfl, ho, b⟩ := hg
        go_wp2
        exact ⟨_, by simp [upd, h2, h4]; done, b, A, c, rfl, ho⟩
      | 6, _ =>
        refine wpOp_one rfl ?_
        clear hd
        have q0 := cell_later hb p0
        have q1 := cell_later hb p1
        have q2 := cell_later hb p2
        have q3 := cell_later hb p3
        go_wp2
        exact ⟨_, by simp [upd]; done, Below.refl _ _, rfl⟩
      | 7, _ =>
        have h6 : v 6 = _ := hd 6 (List.elem_iff.1 (by kernel_rfl))
        refine wpOp_one rfl ?_
        clear hd
        rw [h6]
        have hz := hb.size
        go_wp2
        exact ⟨_, by simp [upd, h6]; done, below_new (Below.refl _ _) _, some ⟨w'.heap.size, 0, none⟩, 1, rfl, one_write (Blk.new w' _ _)⟩
    case done =>
      intro v w' hb hf
      obtain ⟨A2, k2, h2, o2⟩ := hf 1 (by omega)
      obtain ⟨A5, k5, h5, o5⟩ := hf 5 (by omega)
      obtain ⟨A7, k7, h7, o7⟩ := hf 7 (by omega)
      have HO := Lib.hid (show NoteAt w' A2 A5 none A7 k2 k5 0 k7 ⟨l, Ve.joinL [l, [(y.1, y.2.1)]], [], [y]⟩ from NoteAt.mk o2 o5 OneL.nil o7)
      have hB := HB1.out.later (below_on bb3 hb)
      have hbw := below_on hb0 (below_on bb3 hb)
      clear o2 o5 o7 hf
      simp only [List.drop_succ_cons, List.drop_zero]
      rw [h2, h5, h7]
      obtain ⟨⟨z0, z1, z2, z3⟩, r0, r1, r2, r3⟩ := nt_cells hB
      go_wp2
      have hN4 := HO.out.puts hB ⟨rfl, rfl, rfl, rfl⟩ (.slice A2 l.length k2) (.slice A5 (Ve.joinL [l, [(y.1, y.2.1)]]).length k5) (.slice none 0 0) (.slice A7 1 k7) ⟨rfl, rfl, rfl⟩
      refine bodyPost_ret (results_cell_tmp (p := 4) (t1 := 5) (ty := 26) rfl _ _ (w.heap.size + 1) 26 (noteCells A2 A5 none A7 k2 k5 0 k7 ⟨l, Ve.joinL [l, [(y.1, y.2.1)]], [], [y]⟩) _ rfl (nt_puts hB A2 A5 none A7 k2 k5 0 k7 ⟨l, Ve.joinL [l, [(y.1, y.2.1)]], [], [y]⟩) Try.underlying26 rfl infoNt) rfl ?_
      rw [HT2.out]
      exact ⟨_, _, _, _, _, _, _, _, rfl, hN4, below_puts hbw (by omega) _ _ _ _⟩

end Go.Proofs.Ytoaclofobfaflaa
namespace Go.Proofs.Ytoaclofobfaflaa
open Go.RowKit

/-- All that lay is as it was, but for the blocks a and b. -/
def But (a b : Nat) (w w' : World) : Prop := w.heap.size ≤ w'.heap.size ∧ ∀ k, k < w.heap.size → k ≠ a → k ≠ b → w'.heap[k]? = w.heap[k]?
section
variable {a b : Nat} {w w1 w2 : World}
theorem But.refl (a b : Nat) (w : World) : But a b w w := ⟨Nat.le_refl _, fun _ _ _ _ => rfl⟩
theorem But.below (h : But a b w w1) (hb : Below w1.heap.size w1 w2) : But a b w w2 := ⟨Nat.le_trans h.1 hb.size, fun k hk h1 h2 => (hb.block k (by have := h.1; omega)).trans (h.2 k hk h1 h2)⟩
theorem But.drew (h : But a b w w1) : But a b w w1.drew := h
theorem But.alloc (h : But a b w w1) (o : Obj) : But a b w (w1.alloc o) := h.below (below_new (Below.refl _ _) o)
theorem But.setA (h : But a b w w1) (i : Nat) (x : Value) : But a b w (w1.setCell ⟨a, i, none⟩ x) := ⟨by simpa using h.1, fun k hk h1 h2 => (Below.heap_setCell w1 ⟨a, i, none⟩ x k h1).trans (h.2 k hk h1 h2)⟩
theorem But.setB (h : But a b w w1) (i : Nat) (x : Value) : But a b w (w1.setCell ⟨b, i, none⟩ x) := ⟨by simpa using h.1, fun k hk h1 h2 => (Below.heap_setCell w1 ⟨b, i, none⟩ x k h2).trans (h.2 k hk h1 h2)⟩
theorem But.grown (h : But a b w w1) {row : Option Nat} (hg : w1.grownBy w2 row) (hs : w1.heap.size ≤ w2.heap.size) (hr : ∀ r, row = some r → w.heap.size ≤ r) : But a b w w2 :=
  ⟨Nat.le_trans h.1 hs, fun k hk h1 h2 => (hg.block k (by have := h.1; omega) (fun e => by have := hr k e.symm; omega)).trans (h.2 k hk h1 h2)⟩
theorem But.blk (h : But a b w w1) {g : Nat} {t : TypeId} {cs : Array Value} (hB : Blk w g t cs) (h1 : g ≠ a) (h2 : g ≠ b) : Blk w1 g t cs := (h.2 g hB.lt h1 h2).trans hB
def isInt : Value → Bool
  | .int .. => true
  | _ => false
/-- A list that begins with a whole number doesn't lie in a block that holds none. -/
theorem lies_far {A : Option Addr} {xs : List Value} {u : Value} (h : Lies w A (u :: xs)) (hu : isInt u = true) {g : Nat} {t : TypeId} {cs : Array Value} (hB : Blk w g t cs) (hc : ∀ x ∈ cs.toList, isInt x = false) : ∀ p, A = some p → p.block ≠ g := fun p hp e => by
  obtain ⟨c, off, hA, hl⟩ := h (by simp)
  rw [hp] at hA
  injection hA with hA
  subst hA
  simp only at e
  subst e
  have h1 := hl 0 u rfl
  rw [Nat.add_zero, cell_of_row w c off cs t (0, 0) hB] at h1
  have h2 := hc u (Array.mem_toList_iff.2 (Array.mem_of_getElem? h1))
  rw [hu] at h2
  cases h2
theorem Lies.but {A : Option Addr} {xs : List Value} (h : Lies w A xs) (hb : But a b w w1) (hi : ∀ u r, xs = u :: r → isInt u = true) {ta tb : TypeId} {ca cb : Array Value} (hA : Blk w a ta ca) (hca : ∀ x ∈ ca.toList, isInt x = false) (hB : Blk w b tb cb) (hcb : ∀ x ∈ cb.toList, isInt x = false) : Lies w1 A xs := by
  cases xs with
  | nil => exact Lies.nil
  | cons u r =>
    have f1 := lies_far h (hi u r rfl) hA hca
    have f2 := lies_far h (hi u r rfl) hB hcb
    intro hne
    obtain ⟨c, off, hA', hl⟩ := h hne
    refine ⟨c, off, hA', fun j x hx => ?_⟩
    have h1 := hl j x hx
    have hlt := World.block_lt_of_cell? _ _ h1
    exact (World.cell?_of_block (a := ⟨c, off + j, none⟩) (hb.2 c hlt (f1 _ hA') (f2 _ hA'))).trans h1
theorem OneL.but {A : Option Addr} {c : Nat} {l : List (Int × Int)} (h : OneL w A c l) (hb : But a b w w1) {ta tb : TypeId} {ca cb : Array Value} (hA : Blk w a ta ca) (hca : ∀ x ∈ ca.toList, isInt x = false) (hB : Blk w b tb cb) (hcb : ∀ x ∈ cb.toList, isInt x = false) : OneL w1 A c l :=
  ⟨h.1, h.2.1, h.2.2.1, h.2.2.2.but hb (fun u r e => by cases l with | nil => cases e | cons s q => cases e; rfl) hA hca hB hcb⟩
theorem OneW.but {A : Option Addr} {c : Nat} {l : List Wr} (h : OneW w A c l) (hb : But a b w w1) {ta tb : TypeId} {ca cb : Array Value} (hA : Blk w a ta ca) (hca : ∀ x ∈ ca.toList, isInt x = false) (hB : Blk w b tb cb) (hcb : ∀ x ∈ cb.toList, isInt x = false) : OneW w1 A c l :=
  ⟨h.1, h.2.1, h.2.2.1, h.2.2.2.but hb (fun u r e => by cases l with | nil => cases e | cons s q => cases e; rfl) hA hca hB hcb⟩
end

theorem marks_noInt (f : Nat → Bool) : ∀ x ∈ (Sp.arr f).toList, isInt x = false := by
  intro x hx
  unfold Sp.arr at hx
  simp at hx
  obtain ⟨i, _, rfl⟩ := hx
  rfl

end Go.Proofs.Ytoaclofobfaflaa
namespace Go.Proofs.Ytoaclofobfaflaa
open Go.RowKit Fb

namespace Nt
/-- What is kept of the first k writes; what becomes blurred of them. -/
def keptTo (ws : List Wr) (it : List (Int × Int)) (k : Nat) : List Wr := (ws.take k).filter fun x => Sp.inL it x.2.2.1.toNat
def blurTo (n : Note) (it : List (Int × Int)) (k : Nat) (o : Nat) : Bool := Sp.inL n.b o || (n.ws.take k).any fun x => decide (x.2.2.1 = (o : Int)) && !Sp.inL it o
/-- A note as one sees it who has an interest. -/
def through (n : Note) (it : List (Int × Int)) : Note × Int := if fmd n = true then (⟨n.s, n.e, Sp.ofL (blurTo n it n.ws.length), keptTo n.ws it n.ws.length⟩, 0) else (noNote, 1)
theorem kept_yes {ws : List Wr} {it : List (Int × Int)} {k : Nat} (hk : k < ws.length) (h : Sp.inL it (obj ws k).toNat = true) : keptTo ws it (k + 1) = keptTo ws it k ++ [ws.getD k zeroW] := by
  unfold keptTo obj at *
  have e : ws.getD k zeroW = ws[k] := by rw [List.getD_eq_getElem?_getD, List.getElem?_eq_getElem hk]; rfl
  rw [e] at h ⊢
  rw [List.take_succ_eq_append_getElem hk, List.filter_append]
  simp [h]
theorem kept_no {ws : List Wr} {it : List (Int × Int)} {k : Nat} (hk : k < ws.length) (h : Sp.inL it (obj ws k).toNat = false) : keptTo ws it (k + 1) = keptTo ws it k := by
  unfold keptTo obj at *
  have e : ws.getD k zeroW = ws[k] := by rw [List.getD_eq_getElem?_getD, List.getElem?_eq_getElem hk]; rfl
  rw [e] at h
  rw [List.take_succ_eq_append_getElem hk, List.filter_append]
  simp [h]
theorem kept_len (ws : List Wr) (it : List (Int × Int)) (k : Nat) : (keptTo ws it k).length ≤ k := by
  unfold keptTo
  have h1 := List.length_filter_le (fun x : Wr => Sp.inL it x.2.2.1.toNat) (ws.take k)
  rw [List.length_take] at h1
  omega
theorem blur_step {n : Note} {it : List (Int × Int)} {k : Nat} (hk : k < n.ws.length) (o : Nat) : blurTo n it (k + 1) o = (blurTo n it k o || (decide (obj n.ws k = (o : Int)) && !Sp.inL it o)) := by
  unfold blurTo obj
  have e : n.ws.getD k zeroW = n.ws[k] := by rw [List.getD_eq_getElem?_getD, List.getElem?_eq_getElem hk]; rfl
  rw [e, List.take_succ_eq_append_getElem hk, List.any_append, ← Bool.or_assoc]
  simp
end Nt
theorem marks_zero2 : Try.zeroCells69 = Sp.arr (fun _ => false) := marks_zero

set_option maxRecDepth 100000 in
set_option maxHeartbeats 6400000 in
theorem nthrough_any (S E B V I : Option Addr) (cs ce cb cv ci : Nat) (n : Note) (it : List (Int × Int)) (w : World) (hls : n.s.length * 16 ≤ 140737488355328) (hle : n.e.length * 16 ≤ 140737488355328) (hlw : n.ws.length * 32 ≤ 140737488355328) (h1 : NoteAt w S E B V cs ce cb cv n) (h2 : OneL w I ci it) :
    Calls Try.prog 26 #[.agg (noteCells S E B V cs ce cb cv n), .slice I it.length ci] w (AnsNE (Nt.through n it).1 (Nt.through n it).2 w) := by
  obtain ⟨i0, hI, hZ0, hZ1, hZ2⟩ := info_parts infoWr
  obtain ⟨W, hW⟩ : ∃ W, (w.alloc (.cells (noteCells S E B V cs ce cb cv n) 26)).alloc (.cells #[.slice none 0 0, .slice none 0 0, .slice none 0 0, .slice none 0 0] 26) = W := ⟨_, rfl⟩
  have hb0 : Below w.heap.size w W := by rw [← hW]; exact below_new (below_new (Below.refl _ _) _) _
  have hB0 : Blk W w.heap.size 26 (noteCells S E B V cs ce cb cv n) := by rw [← hW]; exact (Blk.new w _ _).alloc _
  have hB1 : Blk W (w.heap.size + 1) 26 #[.slice none 0 0, .slice none 0 0, .slice none 0 0, .slice none 0 0] := by
    rw [← hW, show w.heap.size + 1 = (w.alloc (.cells (noteCells S E B V cs ce cb cv n) 26)).heap.size from by simp]
    exact Blk.new _ _ _
  obtain ⟨c0, c1, c2, c3⟩ := note_cells hB0
  have g0 := c0
  have g1 := c1
  have g2 := c2
  have g3 := c3
  rw [← hW] at g0 g1 g2 g3
  have HN := Lib.hid (h1.later hb0)
  have HI := Lib.hid (h2.later hb0)
  have HB1 := Lib.hid hB1
  have HB0 := Lib.hid hB0
  have N0 := Lib.hid (nformed_any S E B V cs ce cb cv n W (h1.later hb0))
  have hfa := (Nt.wsOk_iff n).1
  have HT := Lib.hid (show Nt.through n it = if Nt.fmd n = true then (⟨n.s, n.e, Sp.ofL (Nt.blurTo n it n.ws.length), Nt.keptTo n.ws it n.ws.length⟩, 0) else (noNote, 1) from rfl)
  have HF := Lib.hid (show Nt.fmd n = true → Nt.wsTo n n.ws.length from fun h => hfa (by unfold Nt.fmd at h; simp only [Bool.and_eq_true] at h; exact h.2.2.2.2))
  obtain ⟨x0, hx0⟩ : ∃ x, Nt.fmd n = x := ⟨_, rfl⟩
  rw [hx0] at N0 HT HF
  have HW := Lib.hid hW
  clear hW hB0 hB1 h1 h2 hx0 hfa
  cases x0 with
  | false =>
    have HT2 := Lib.hid (HT.out.trans (if_neg (by simp)))
    go_enter Try.func26, Try.ntmps26
    go_wp2_with fail
    rw [HW.out]
    refine N0.out.mono ?_
    rintro e w1 ⟨rfl, b1⟩
    have hq := HB1.out.later b1
    obtain ⟨⟨z0, z1, z2, z3⟩, r0, r1, r2, r3⟩ := nt_cells hq
    have HQ := Lib.hid hq
    clear hq
    go_wp2
    refine bodyPost_ret (results_cell_tmp (p := 4) (t1 := 5) (ty := 26) rfl _ _ (w.heap.size + 1) 26 (noteCells none none none none 0 0 0 0 noNote) _ rfl (nt_puts HQ.out none none none none 0 0 0 0 noNote) Try.underlying26 rfl infoNt) rfl ?_
    rw [HT2.out]
    exact ⟨_, _, _, _, _, _, _, _, rfl, noNote_at _, below_puts (below_on hb0 b1) (by omega) _ _ _ _⟩
  | true =>
  have HT2 := Lib.hid (HT.out.trans (if_pos rfl))
  have HWS := Lib.hid (HF.out rfl)
  have NS := Lib.hid (fun wx (hb : Below W.heap.size W wx) => set_any I ci it wx (HI.out.later hb).len (HI.out.later hb).stamps)
  have NB := Lib.hid (fun wx (hb : Below W.heap.size W wx) => set_any B cb n.b wx (HN.out.hb.later hb).len (HN.out.hb.later hb).stamps)
  obtain ⟨inI, hinI⟩ : ∃ f, Sp.inL it = f := ⟨_, rfl⟩
  obtain ⟨inB, hinB⟩ : ∃ f, Sp.inL n.b = f := ⟨_, rfl⟩
  rw [hinI] at NS
  rw [hinB] at NB
  have HII := Lib.hid hinI
  have HIB := Lib.hid hinB
  clear hinI hinB HT HF
  go_enter Try.func26, Try.ntmps26
  go_wp2_with fail
  rw [HW.out]
  refine N0.out.mono ?_
  rintro e w1 ⟨rfl, b1⟩
  have d2 := cell_later b1 c2
  clear g0 g1 g2 g3
  go_wp2_with fail
  refine (NS.out _ b1).mono ?_
  rintro e w2 ⟨rfl, b2⟩
  have bb2 := below_on b1 b2
  have hS0 := Blk.new w2 69 (Sp.arr fun _ => false)
  rw [← marks_zero] at hS0
  have hS1 := hS0.row (Sp.arr inI)
  have bs := below_setRow (below_new (Below.refl w2.heap.size w2) (.cells Try.zeroCells69 69)) (Nat.le_refl _) (Sp.arr inI)
  have e2 := cell_later (below_on bb2 bs) c2
  go_wp2_with (refine wpList_store_row rfl 69 _ _ rfl w2.heap.size (Sp.arr inI) rfl rfl 69 Try.zeroCells69 hS0 (by rw [Sp.arr_size]; exact info256) (by rw [marks_zero, Sp.arr_size, Sp.arr_size]) (one_marks _) ?_)
  refine (NB.out _ (below_on bb2 bs)).mono ?_
  rintro e w3 ⟨rfl, b3⟩
  have bb3 := below_on (below_on bb2 bs) b3
  have hSI := hS1.later b3
  have hT0 := Blk.new w3 69 (Sp.arr fun _ => false)
  rw [← marks_zero] at hT0
  have hT1 := hT0.row (Sp.arr inB)
  have bt := below_setRow (below_new (Below.refl w3.heap.size w3) (.cells Try.zeroCells69 69)) (Nat.le_refl _) (Sp.arr inB)
  have HSI := Lib.hid (hSI.later bt)
  have HSB := Lib.hid hT1
  have bb4 := below_on bb3 bt
  have hz2 : w2.heap.size < w3.heap.size := hSI.lt
  have hz1 := bb2.size
  have hz0w := hb0.size
  clear hS0 hS1 e2 d2 hSI hT1 NS NB
  go_wp2_with (refine wpList_store_row rfl 69 _ _ rfl w3.heap.size (Sp.arr inB) rfl rfl 69 Try.zeroCells69 hT0 (by rw [Sp.arr_size]; exact info256) (by rw [marks_zero, Sp.arr_size, Sp.arr_size]) (one_marks _) ?_)
  obtain ⟨w4, hw4⟩ : ∃ w4, (w3.alloc (.cells Try.zeroCells69 69)).setRow w3.heap.size (Sp.arr inB) = w4 := ⟨_, rfl⟩
  rw [hw4] at HSI HSB bb4 bt ⊢
  clear hw4 hT0
  have p0 := cell_later bb4 c0
  have p1 := cell_later bb4 c1
  have hn4 := HN.out.later bb4
  have NC := Lib.hid (fun wx (hb : Below w4.heap.size w4 wx) => (rcopy_any S cs n.s wx hls (hn4.hs.later hb).2.2.1 (hn4.hs.later hb).2.2.2).mono fun _ _ hg => hg.one)
  have NE := Lib.hid (fun wx (hb : Below w4.heap.size w4 wx) => (rcopy_any E ce n.e wx hle (hn4.he.later hb).2.2.1 (hn4.he.later hb).2.2.2).mono fun _ _ hg => hg.one)
  clear hn4
  refine wp_region_facts 8 (by kernel_rfl) (by kernel_rfl)
    (fun v => { tmps := #[.agg (noteCells S E B V cs ce cb cv n), .slice I it.length ci, .pointer (some ⟨w.heap.size, 0, none⟩), undef, .pointer (some ⟨w.heap.size + 1, 0, none⟩), .int .i64 0, .pointer (some ⟨w2.heap.size, 0, none⟩), .pointer (some ⟨w3.heap.size, 0, none⟩), v 7, undef, .agg #[.slice S n.s.length cs, .slice E n.e.length ce, .slice B n.b.length cb, .slice V n.ws.length cv], .bool true, .bool false, undef, .slice I it.length ci, .agg (Sp.arr inI), .pointer (some ⟨w.heap.size, 2, none⟩), .slice B n.b.length cb, .agg (Sp.arr inB), v 0, v 1, v 2, v 3, v 4, v 5, v 6, undef, undef, undef, undef, undef, undef, undef, undef, undef, undef, undef, undef, undef, undef, undef, undef, undef, undef, undef, undef, undef, undef, undef, undef, undef, undef, undef, undef, undef, undef, undef, undef, undef, undef, undef, undef], defers := [] }) (fun _ => undef)
    (fun i x wx => match i with
      | 0 => x = .pointer (some ⟨w.heap.size, 0, none⟩)
      | 1 => x = .slice S n.s.length cs
      | 2 => ∃ A' c', x = .slice A' n.s.length c' ∧ OneL wx A' c' n.s
      | 3 => x = .pointer (some ⟨w.heap.size, 1, none⟩)
      | 4 => x = .slice E n.e.length ce
      | 5 => ∃ A' c', x = .slice A' n.e.length c' ∧ OneL wx A' c' n.e
      | 6 => ∃ A' c' A'' c'', x = .agg #[.slice A' n.s.length c', .slice A'' n.e.length c'', .slice none 0 0, .slice none 0 0] ∧ OneL wx A' c' n.s ∧ OneL wx A'' c'' n.e
      | 7 => ∃ g, x = .pointer (some ⟨g, 0, none⟩) ∧ Blk wx g 26 #[.slice none 0 0, .slice none 0 0, .slice none 0 0, .slice none 0 0] ∧ w4.heap.size ≤ g
      | _ => True)
    (fun w1 w2 => Below w1.heap.size w1 w2) (fun h1 h2 => below_on h1 h2) (fun _ => Below.refl _ _) (Below.drew (Below.refl _ _)) ?stab ?step ?done
  case stab =>
    rintro i x w1 w2 h hb
    match i, h with
    | 0, h => exact h
    | 1, h => exact h
    | 2, h => obtain ⟨A, c, h1, h2⟩ := h; exact ⟨A, c, h1, h2.later hb⟩
    | 3, h => exact h
    | 4, h => exact h
    | 5, h => obtain ⟨A, c, h1, h2⟩ := h; exact ⟨A, c, h1, h2.later hb⟩
    | 6, h => obtain ⟨A, c, A2, c2, h1, h2, h3⟩ := h; exact ⟨A, c, A2, c2, h1, h2.later hb, h3.later hb⟩
    | 7, h => obtain ⟨g, h1, h2, h3⟩ := h; exact ⟨g, h1, h2.later hb, h3⟩
    | i + 8, _ => trivial
  case step =>
    intro i hi v w' hb hd
    match i, hi with
    | 0, _ =>
      refine wpOp_one rfl ?_
      clear hd
      go_wp2
      exact ⟨_, by simp [upd]; done, Below.refl _ _, rfl⟩
    | 1, _ =>
      have h0 : v 0 = _ := hd 0 (List.elem_iff.1 (by kernel_rfl))
      refine wpOp_one rfl ?_
      clear hd
      rw [h0]
      have q0 := cell_later hb p0
      go_wp2
      exact ⟨_, by simp [upd, h0]; done, Below.refl _ _, rfl⟩
    | 2, _ =>
      have h1 : v 1 = _ := hd 1 (List.elem_iff.1 (by kernel_rfl))
      refine wpOp_one rfl ?_
      clear hd
      rw [h1]
      go_wp2_with fail
      refine (NC.out _ hb).mono ?_
      rintro e w'' hg
      obtain ⟨A, c, rfl, ho, b⟩ := hg
      go_wp2
      exact ⟨_, by simp [upd, h1]; done, b, A, c, rfl, ho⟩
    | 3, _ =>
      refine wpOp_one rfl ?_
      clear hd
      go_wp2
      exact ⟨_, by simp [upd]; done, Below.refl _ _, rfl⟩
    | 4, _ =>
      have h3 : v 3 = _ := hd 3 (List.elem_iff.1 (by kernel_rfl))
      refine wpOp_one rfl ?_
      clear hd
      rw [h3]
      have q0 := cell_later hb p1
      go_wp2
      exact ⟨_, by simp [upd, h3]; done, Below.refl _ _, rfl⟩
    | 5, _ =>
      have h4 : v 4 = _ := hd 4 (List.elem_iff.1 (by kernel_rfl))
      refine wpOp_one rfl ?_
      clear hd
      rw [h4]
      go_wp2_with fail
      refine (NE.out _ hb).mono ?_
      rintro e w'' hg
      obtain ⟨A, c, rfl, ho, b⟩ := hg
      go_wp2
      exact ⟨_, by simp [upd, h4]; done, b, A, c, rfl, ho⟩
    | 6, _ =>
      obtain ⟨A2, k2, h2, o2⟩ := hd 2 (List.elem_iff.1 (by kernel_rfl))
      obtain ⟨A5, k5, h5, o5⟩ := hd 5 (List.elem_iff.1 (by kernel_rfl))
      refine wpOp_one rfl ?_
      clear hd
      rw [h2, h5]
      go_wp2
      exact ⟨_, by simp [upd, h2, h5]; done, Below.refl _ _, A2, k2, A5, k5, rfl, o2, o5⟩
    | 7, _ =>
      refine wpOp_one rfl ?_
      clear hd
      have hz := hb.size
      go_wp2
      exact ⟨_, by simp [upd]; done, below_new (Below.refl _ _) _, w'.heap.size, rfl, Blk.new _ _ _, by omega⟩
  case done =>
    intro v w' hb hf
    obtain ⟨A2, k2, A5, k5, h6, o2, o5⟩ := hf 6 (by omega)
    obtain ⟨g8, h7, q8, hg8⟩ := hf 7 (by omega)
    have O2 := Lib.hid o2
    have O5 := Lib.hid o5
    clear o2 o5 hf
    simp only [List.drop_succ_cons, List.drop_zero]
    rw [h6, h7]
    obtain ⟨⟨z0, z1, z2, z3⟩, r0, r1, r2, r3⟩ := nt_cells q8
    go_wp2_with fail
    have B1 : Blk (w'.setCell ⟨g8, 0, none⟩ (.slice A2 n.s.length k2)) g8 26 #[.slice A2 n.s.length k2, .slice none 0 0, .slice none 0 0, .slice none 0 0] := q8.put 0 _
    have B2 : Blk ((w'.setCell ⟨g8, 0, none⟩ (.slice A2 n.s.length k2)).setCell ⟨g8, 1, none⟩ (.slice A5 n.e.length k5)) g8 26 #[.slice A2 n.s.length k2, .slice A5 n.e.length k5, .slice none 0 0, .slice none 0 0] := B1.put 1 _
    have B4 : Blk ((((w'.setCell ⟨g8, 0, none⟩ (.slice A2 n.s.length k2)).setCell ⟨g8, 1, none⟩ (.slice A5 n.e.length k5)).setCell ⟨g8, 2, none⟩ (.slice none 0 0)).setCell ⟨g8, 3, none⟩ (.slice none 0 0)) g8 26 #[.slice A2 n.s.length k2, .slice A5 n.e.length k5, .slice none 0 0, .slice none 0 0] := (B2.put 2 _).put 3 _
    have b5 : Below w4.heap.size w4 ((((w'.setCell ⟨g8, 0, none⟩ (.slice A2 n.s.length k2)).setCell ⟨g8, 1, none⟩ (.slice A5 n.e.length k5)).setCell ⟨g8, 2, none⟩ (.slice none 0 0)).setCell ⟨g8, 3, none⟩ (.slice none 0 0)) := below_puts hb hg8 _ _ _ _
    have N5 := (NoteAt.mk (n := ⟨n.s, n.e, [], []⟩) O2.out O5.out OneL.nil OneW.nil : NoteAt w' A2 A5 none none k2 k5 0 0 ⟨n.s, n.e, [], []⟩).puts q8 ⟨rfl, rfl, rfl, rfl⟩ (.slice A2 n.s.length k2) (.slice A5 n.e.length k5) (.slice none 0 0) (.slice none 0 0) ⟨rfl, rfl, rfl⟩
    have hg8lt := q8.lt
    obtain ⟨w5, hw5⟩ : ∃ w5, (((w'.setCell ⟨g8, 0, none⟩ (.slice A2 n.s.length k2)).setCell ⟨g8, 1, none⟩ (.slice A5 n.e.length k5)).setCell ⟨g8, 2, none⟩ (.slice none 0 0)).setCell ⟨g8, 3, none⟩ (.slice none 0 0) = w5 := ⟨_, rfl⟩
    have hsz5 : w'.heap.size = w5.heap.size := by rw [← hw5]; simp
    rw [hw5] at B4 b5 N5 ⊢
    clear hw5 B1 B2 q8 h6 h7 z0 z1 z2 z3 r0 r1 r2 r3 O2 O5
    have hz4 := bb4.size
    have bb5 := below_on bb4 b5
    have hSBlt := HSB.out.lt
    have HX5 := Lib.hid (HSI.out.later b5)
    have HM5 := Lib.hid (HSB.out.later b5)
    have HR5 := Lib.hid (HB1.out.later bb5)
    have HB05 := Lib.hid ((show Blk W w.heap.size 26 (noteCells S E B V cs ce cb cv n) from HB0.out).later bb5)
    have HV5 := Lib.hid (HN.out.hv.later bb5)
    have HN5 := Lib.hid N5
    have HB4 := Lib.hid B4
    have hWlt := HR5.out.lt
    have hg8w : w3.heap.size < g8 := by omega
    have hwW : w.heap.size + 1 < W.heap.size := HB1.out.lt
    clear N5 B4 HSI HSB HN HI NC NE c0 c1 c2 c3 p0 p1
    go_loopw [9] (fun s9 wr => ∃ (k : Nat) (v : Value), k ≤ n.ws.length ∧ s9 = .int .i64 (k : Int) ∧ Blk wr g8 26 #[.slice A2 n.s.length k2, .slice A5 n.e.length k5, .slice none 0 0, v] ∧ wr.ownsRow w5.heap.size 35 4 v (Nt.keptTo n.ws it k).length (Nt.wrCells (Nt.keptTo n.ws it k)) ∧ Blk wr w3.heap.size 69 (Sp.arr (Nt.blurTo n it k)) ∧ But w3.heap.size g8 w5 wr ∧ Below w.heap.size w wr) (fun s9 _ => n.ws.length - (intOf s9).toNat)
    case atStart =>
      refine ⟨0, .slice none 0 0, Nat.zero_le _, rfl, HB4.out, ⟨rfl, .inl ⟨rfl, rfl⟩⟩, ?_, But.refl _ _ _, below_on hb0 bb5⟩
      refine HM5.out.marks_same (fun i _ => ?_)
      rw [← HIB.out]
      show _ = (Sp.inL n.b i || false)
      rw [Bool.or_false]
    case round =>
      obtain ⟨k, vk, hk, rfl, hG, hown, hM, hbut, hbw⟩ := hrel
      have x3 : wr.cell? ⟨w.heap.size, 3, none⟩ = some (.slice V n.ws.length cv) := (hbut.blk HB05.out (by omega) (by omega)).cell rfl
      by_cases hlt : k < n.ws.length
      · have hne : n.ws ≠ [] := fun e => by rw [e] at hlt; simp at hlt
        have hv := HV5.out.but hbut HM5.out (marks_noInt _) HB4.out (by intro x hx; simp at hx; rcases hx with rfl | rfl | rfl | rfl <;> rfl)
        obtain ⟨b, off, hA, hcA⟩ := hv.at hne
        subst hA
        obtain ⟨e0, e1, e2, e3⟩ := hcA k hlt
        obtain ⟨_, ⟨ho0, ho1⟩, _, _⟩ := HWS.out k hlt
        have hky := @Nt.kept_yes n.ws it k hlt
        have hkn := @Nt.kept_no n.ws it k hlt
        have hbs := Nt.blur_step (n := n) (it := it) hlt
        have hkl := Nt.kept_len n.ws it k
        have hob : (n.ws.getD k Nt.zeroW).2.2.1 = Nt.obj n.ws k := rfl
        obtain ⟨m, hm⟩ : ∃ m : Nat, Nt.obj n.ws k = (m : Int) := ⟨(Nt.obj n.ws k).toNat, by omega⟩
        rw [hob, hm] at e2
        rw [hm] at ho0 ho1 hky hkn hbs
        have hm256 : m < 256 := by omega
        have hmt : ((m : Nat) : Int).toNat = m := rfl
        rw [hmt, HII.out] at hky hkn
        rw [HII.out] at hbs
        have xI := (hbut.blk HX5.out (by omega) (by omega)).marks_cell m hm256
        have xM := hM.marks_cell m hm256
        have xMf := hM.free m
        have hi0 : (0 : Int) ≤ (k : Int) := by omega
        have hi1 : (k : Int) < (n.ws.length : Int) := by omega
        have hj1 : (m : Int) < 256 := by omega
        obtain ⟨y, hy⟩ : ∃ y, n.ws.getD k Nt.zeroW = y := ⟨_, rfl⟩
        rw [hy] at e0 e1 e3 hky hob
        have hyo : y.2.2.1 = (m : Int) := hob.trans hm
        clear hcA hv hob hm
        cases hin : inI m
        · rw [hin] at xI hkn
          have HK := Lib.hid (hkn rfl)
          have HMN := Lib.hid ((hM.marks_put m hm256 true).marks_same (f' := Nt.blurTo n it (k + 1)) (fun i _ => by
            rw [hbs i]
            by_cases e : i = m
            · subst e; rw [if_pos rfl, hin, decide_eq_true rfl]; simp
            · rw [if_neg e, decide_eq_false (by omega)]; simp))
          have HGN := Lib.hid (hG.far (p := ⟨w3.heap.size, m, none⟩) (by show g8 ≠ w3.heap.size; omega) (.bool true))
          have HON := Lib.hid (own_stays (w' := wr.setCell ⟨w3.heap.size, m, none⟩ (.bool true)) hown (fun r hr => Below.heap_setCell wr ⟨w3.heap.size, m, none⟩ _ r (by have := own_ge hown r hr; show r ≠ w3.heap.size; omega)))
          have hb2 := hbut.setA m (.bool true)
          have hbw2 := hbw.setCell (p := ⟨w3.heap.size, m, none⟩) (by show w.heap.size ≤ w3.heap.size; omega) (.bool true)
          clear hin hky hkn hbs hG hown hM
          go_wp2_with fail
          go_roundw
          case rel => exact ⟨k + 1, vk, by omega, by go_num, HGN.out, by rw [HK.out]; exact HON.out, HMN.out, hb2, hbw2⟩
          case measure => simp [intOf]; omega
        · rw [hin] at xI hky
          have HK := Lib.hid (hky rfl)
          have HMN := Lib.hid (hM.marks_same (f' := Nt.blurTo n it (k + 1)) (fun i _ => by
            rw [hbs i]
            by_cases e : i = m
            · subst e; rw [hin]; simp
            · rw [decide_eq_false (by omega)]; simp))
          obtain ⟨K, hKK⟩ : ∃ K, Nt.keptTo n.ws it k = K := ⟨_, rfl⟩
          rw [hKK] at hown hkl HK
          have z3 := hG.cell (i := 3) rfl
          have HG := Lib.hid hG
          have HOW := Lib.hid hown
          have HBT := Lib.hid hbut
          clear hin hky hkn hbs hG hM hKK hbut hown
          go_wp2_with fail
          refine wp_region_facts 8 (by kernel_rfl) (by kernel_rfl)
            (fun vv => { tmps := #[.agg (noteCells S E B (some ⟨b, off, none⟩) cs ce cb cv n), .slice I it.length ci, .pointer (some ⟨w.heap.size, 0, none⟩), undef, .pointer (some ⟨w.heap.size + 1, 0, none⟩), .int .i64 0, .pointer (some ⟨w2.heap.size, 0, none⟩), .pointer (some ⟨w3.heap.size, 0, none⟩), .pointer (some ⟨g8, 0, none⟩), .int .i64 (k : Int), .agg #[.slice S n.s.length cs, .slice E n.e.length ce, .slice B n.b.length cb, .slice (some ⟨b, off, none⟩) n.ws.length cv], .bool true, .bool false, undef, .slice I it.length ci, .agg (Sp.arr inI), .pointer (some ⟨w.heap.size, 2, none⟩), .slice B n.b.length cb, .agg (Sp.arr inB), v 0, v 1, v 2, v 3, v 4, v 5, .agg #[.slice A2 n.s.length k2, .slice A5 n.e.length k5, .slice none 0 0, .slice none 0 0], .int .i64 (k : Int), .pointer (some ⟨w.heap.size, 3, none⟩), .slice (some ⟨b, off, none⟩) n.ws.length cv, .int .i64 (n.ws.length : Int), .bool true, u31, u32, .pointer (some ⟨w.heap.size, 3, none⟩), .slice (some ⟨b, off, none⟩) n.ws.length cv, .int .i64 (k : Int), .pointer (some ⟨b, off + k * 4, none⟩), .pointer (some ⟨b, off + k * 4 + 2, none⟩), .int .i64 (m : Int), .pointer (some ⟨w2.heap.size, m, none⟩), .bool true, vv 0, vv 1, vv 2, vv 3, vv 4, vv 5, vv 6, vv 7, u49, u50, u51, u52, u53, u54, u55, u56, u57, undef, undef, undef, undef], defers := [] }) (fun i => [u41, u42, u43, u44, u45, u46, u47, u48].getD i undef)
            (fun i x wx => match i with
              | 0 => x = .pointer (some ⟨g8, 3, none⟩)
              | 1 => x = vk
              | 2 => x = .pointer (some ⟨w.heap.size, 3, none⟩)
              | 3 => x = .slice (some ⟨b, off, none⟩) n.ws.length cv
              | 4 => x = .int .i64 (k : Int)
              | 5 => x = .pointer (some ⟨b, off + k * 4, none⟩)
              | 6 => x = .agg #[.int .i64 y.1, .int .i64 y.2.1, .int .i64 (m : Int), .bool y.2.2.2]
              | 7 => ∃ g, x = .slice (some ⟨g, 0, none⟩) 1 1 ∧ Blk wx g 35 #[.int .i64 y.1, .int .i64 y.2.1, .int .i64 (m : Int), .bool y.2.2.2] ∧ wr.heap.size ≤ g
              | _ => True)
            (fun w1 w2 => Below w1.heap.size w1 w2) (fun h1 h2 => below_on h1 h2) (fun _ => Below.refl _ _) (Below.drew (Below.refl _ _)) ?stab ?step ?done
          case stab =>
            rintro i x w1 w2 h hb
            match i, h with
            | 0, h => exact h
            | 1, h => exact h
            | 2, h => exact h
            | 3, h => exact h
            | 4, h => exact h
            | 5, h => exact h
            | 6, h => exact h
            | 7, h => obtain ⟨g, h1, h2, h3⟩ := h; exact ⟨g, h1, h2.later hb, h3⟩
            | i + 8, _ => trivial
          case step =>
            intro i hi v w' hb hd
            match i, hi with
            | 0, _ =>
              refine wpOp_one rfl ?_
              clear hd
              go_wp2
              exact ⟨_, by simp [upd]; done, Below.refl _ _, rfl⟩
            | 1, _ =>
              have h0 : v 0 = _ := hd 0 (List.elem_iff.1 (by kernel_rfl))
              refine wpOp_one rfl ?_
              clear hd
              rw [h0]
              have q0 := cell_later hb z3
              go_wp2
              exact ⟨_, by simp [upd, h0]; done, Below.refl _ _, rfl⟩
            | 2, _ =>
              refine wpOp_one rfl ?_
              clear hd
              go_wp2
              exact ⟨_, by simp [upd]; done, Below.refl _ _, rfl⟩
            | 3, _ =>
              have h2 : v 2 = _ := hd 2 (List.elem_iff.1 (by kernel_rfl))
              refine wpOp_one rfl ?_
              clear hd
              rw [h2]
              have q0 := cell_later hb x3
              go_wp2
              exact ⟨_, by simp [upd, h2]; done, Below.refl _ _, rfl⟩
            | 4, _ =>
              refine wpOp_one rfl ?_
              clear hd
              go_wp2
              exact ⟨_, by simp [upd]; done, Below.refl _ _, rfl⟩
            | 5, _ =>
              have h3 : v 3 = _ := hd 3 (List.elem_iff.1 (by kernel_rfl))
              have h4 : v 4 = _ := hd 4 (List.elem_iff.1 (by kernel_rfl))
              refine wpOp_one rfl ?_
              clear hd
              rw [h3, h4]
              go_wp2
              exact ⟨_, by simp [upd, h3, h4]; done, Below.refl _ _, rfl⟩
            | 6, _ =>
              have h5 : v 5 = _ := hd 5 (List.elem_iff.1 (by kernel_rfl))
              refine wpOp_one rfl ?_
              clear hd
              rw [h5]
              have q0 := cell_later hb e0
              have q1 := cell_later hb e1
              have q2 := cell_later hb e2
              have q3 := cell_later hb e3
              go_wp2
              exact ⟨_, by simp [upd, h5]; done, Below.refl _ _, rfl⟩
            | 7, _ =>
              have h6 : v 6 = _ := hd 6 (List.elem_iff.1 (by kernel_rfl))
              refine wpOp_one rfl ?_
              clear hd
              rw [h6]
              have hz := hb.size
              go_wp2
              exact ⟨_, by simp [upd, h6]; done, below_new (Below.refl _ _) _, w'.heap.size, rfl, Blk.new _ _ _, by omega⟩
          case done =>
            intro vv w' hb hf
            obtain ⟨g7, h7, B7, l7⟩ := hf 7 (by omega)
            have h1 : vv 1 = _ := hf 1 (by omega)
            clear hf
            simp only [List.drop_succ_cons, List.drop_zero]
            rw [h1, h7]
            have hown' := own_later HOW.out hb
            have hy1 : Lies w' (some ⟨g7, 0, none⟩) (Nt.wrCells [y]) := fun _ => ⟨g7, 0, rfl, fun j u hu => by
              rw [Nat.zero_add]
              refine B7.cell ?_
              rw [← hyo]
              simpa [Nt.wrCells, Nt.wrCell] using hu⟩
            have hbutw := HBT.out.below hb
            have hGw := HG.out.later hb
            have hMw := HMN.out.later hb
            have hbw' := below_on hbw hb
            have hszw := hbutw.1
            go_wp2_with (at_builtin; refine Go.Proofs.Ytoaclofobfaflaa.wpList_append_lies _ rfl _ _ 24 rfl w5.heap.size 35 i0 (.agg #[.int .i64 0, .int .i64 0, .int .i64 0, .bool false]) 4 32 Try.underlying24 hI hZ0 hZ1 hZ2 rfl (by decide) _ K.length (Nt.wrCells K) rfl hown' (some ⟨g7, 0, none⟩) 1 1 (fun h => by cases h) (Nt.wrCells [y]) rfl rfl hy1 (Nt.wrCells_one _) ?h63 ?hbytes hszw ?_)
            case h63 => have q1 := HV5.out.1; have q2 := HV5.out.2.1; omega
            case hbytes => omega
            intro v' w6 hown6 hg6 _
            have hs6 := hg6.size
            have G6 : Blk w6 g8 26 #[.slice A2 n.s.length k2, .slice A5 n.e.length k5, .slice none 0 0, vk] := (hg6.block g8 hGw.lt (fun e => by have := own_ge hown' _ e.symm; omega)).trans hGw
            have M6 : Blk w6 w3.heap.size 69 (Sp.arr (Nt.blurTo n it (k + 1))) := (hg6.block _ hMw.lt (fun e => by have := own_ge hown' _ e.symm; omega)).trans hMw
            have but6 := hbutw.grown hg6 hs6 (fun r e => own_ge hown' r e)
            have bw6 : Below w.heap.size w w6 := hbw'.grown hg6 (by omega) (fun r e => by have := own_ge hown' r e; omega)
            rw [← Nt.wrCells_append, show K.length + 1 = (K ++ [y]).length from by simp, ← HK.out] at hown6
            have z6 := G6.cell (i := 3) rfl
            have r6 := G6.free 3
            have G7 : ∀ u, Blk (w6.setCell ⟨g8, 3, none⟩ u) g8 26 #[.slice A2 n.s.length k2, .slice A5 n.e.length k5, .slice none 0 0, u] := fun u => G6.put 3 u
            have M7 : ∀ u, Blk (w6.setCell ⟨g8, 3, none⟩ u) w3.heap.size 69 (Sp.arr (Nt.blurTo n it (k + 1))) := fun u => M6.far (p := ⟨g8, 3, none⟩) (by show w3.heap.size ≠ g8; omega) u
            have O7 : ∀ u, (w6.setCell ⟨g8, 3, none⟩ u).ownsRow w5.heap.size 35 4 v' (Nt.keptTo n.ws it (k + 1)).length (Nt.wrCells (Nt.keptTo n.ws it (k + 1))) := fun u => own_stays hown6 (fun r hr => Below.heap_setCell w6 ⟨g8, 3, none⟩ u r (by have := own_ge hown6 r hr; show r ≠ g8; omega))
            have HQ := Lib.hid (And.intro G7 (And.intro M7 O7))
            obtain ⟨gv, capv, rfl⟩ := own_len hown6 (by rw [HK.out]; simp)
            have b7 := fun u => but6.setB 3 u
            have c7 := fun u => bw6.setCell (p := ⟨g8, 3, none⟩) (by show w.heap.size ≤ g8; omega) u
            have HQ2 := Lib.hid (And.intro b7 c7)
            clear G6 M6 hown6 hg6 hown' hy1 hGw hMw G7 M7 O7 b7 c7 hbutw
            go_wp2_with fail
            go_roundw
            case rel => exact ⟨k + 1, _, by omega, by go_num, HQ.out.1 _, HQ.out.2.2 _, HQ.out.2.1 _, HQ2.out.1 _, HQ2.out.2 _⟩
            case measure => simp [intOf]; omega
      · have hkl : k = n.ws.length := by omega
        subst hkl
        have z2 := hG.cell (i := 2) rfl
        have r2 := hG.free 2
        have HG := Lib.hid hG
        have HM := Lib.hid hM
        have HOW := Lib.hid hown
        have HBT := Lib.hid hbut
        clear hG hM hown hbut
        obtain ⟨A7, k7, hvk, hO7⟩ := OneW.of_own HOW.out
        subst hvk
        have hsl : ∀ x ∈ (#[.slice A2 n.s.length k2, .slice A5 n.e.length k5, .slice none 0 0, .slice none 0 0] : Array Value).toList, isInt x = false := by intro x hx; simp at hx; rcases hx with rfl | rfl | rfl | rfl <;> rfl
        have L2 := HN5.out.hs.but HBT.out HM5.out (marks_noInt _) HB4.out hsl
        have L5 := HN5.out.he.but HBT.out HM5.out (marks_noInt _) HB4.out hsl
        have hRw := HBT.out.blk HR5.out (by omega) (by omega)
        have HRW := Lib.hid hRw
        have HL := Lib.hid (And.intro L2 (And.intro L5 hO7))
        clear L2 L5 hO7 hRw HOW
        go_wp2_with (refine wpList_load_row rfl 69 _ rfl w3.heap.size rfl 69 _ (0, 0) _ HM.out Try.underlying69 rfl (by rw [Sp.arr_size]; exact info256) ?_)
        refine (ofS_any _ _).mono ?_
        rintro e w6 hg
        obtain ⟨A6, k6, rfl, o6, b6⟩ := hg.one
        have G6 := HG.out.later b6
        have R6 := HRW.out.later b6
        have N6 : NoteAt w6 A2 A5 A6 A7 k2 k5 k6 k7 (Nt.through n it).1 := by
          rw [HT2.out]
          exact ⟨HL.out.1.later b6, HL.out.2.1.later b6, o6, HL.out.2.2.later b6⟩
        have hTn : (Nt.through n it).1 = ⟨n.s, n.e, Sp.ofL (Nt.blurTo n it n.ws.length), Nt.keptTo n.ws it n.ws.length⟩ := by rw [HT2.out]
        have hTe : (Nt.through n it).2 = 0 := by rw [HT2.out]
        obtain ⟨M, hM⟩ : ∃ M, (Nt.through n it).1 = M := ⟨_, rfl⟩
        obtain ⟨ME, hME⟩ : ∃ ME, (Nt.through n it).2 = ME := ⟨_, rfl⟩
        rw [hM] at N6 hTn ⊢
        rw [hME] at hTe ⊢
        obtain ⟨bl, hbl⟩ : ∃ bl, Sp.ofL (Nt.blurTo n it n.ws.length) = bl := ⟨_, rfl⟩
        obtain ⟨kw, hkw⟩ : ∃ kw, Nt.keptTo n.ws it n.ws.length = kw := ⟨_, rfl⟩
        rw [hkw] at G6
        rw [hbl, hkw] at hTn
        rw [hbl]
        have HTB := Lib.hid (show Nt.through n it = (⟨n.s, n.e, bl, kw⟩, 0) from by rw [HT2.out, hbl, hkw])
        subst hTn hTe
        have z2' := G6.cell (i := 2) rfl
        have r2' := G6.free 2
        have G7 := G6.put 2 (.slice A6 bl.length k6)
        have G7' : Blk (w6.setCell ⟨g8, 2, none⟩ (.slice A6 bl.length k6)) g8 26 (noteCells A2 A5 A6 A7 k2 k5 k6 k7 ⟨n.s, n.e, bl, kw⟩) := G7
        have N7 := N6.slPut G6 (by intro x hx; simp at hx; rcases hx with rfl | rfl | rfl | rfl <;> rfl) 2 (.slice A6 bl.length k6)
        have R7 := R6.far (p := ⟨g8, 2, none⟩) (by show w.heap.size + 1 ≠ g8; omega) (.slice A6 bl.length k6)
        have b7 := (below_on hbw b6).setCell (p := ⟨g8, 2, none⟩) (by show w.heap.size ≤ g8; omega) (.slice A6 bl.length k6)
        obtain ⟨y0, y1, y2, y3⟩ := note_cells G7'
        obtain ⟨⟨q0, q1, q2, q3⟩, s0, s1, s2, s3⟩ := nt_cells R7
        have N8 := N7.puts R7 ⟨rfl, rfl, rfl, rfl⟩ (.slice A2 n.s.length k2) (.slice A5 n.e.length k5) (.slice A6 bl.length k6) (.slice A7 kw.length k7) ⟨rfl, rfl, rfl⟩
        have HN8 := Lib.hid N8
        have HR7 := Lib.hid R7
        have HB7 := Lib.hid b7
        clear G6 G7 G7' N6 N7 N8 R6 R7 b7 hbl hkw hM hME
        go_wp2
        refine bodyPost_ret (results_cell_tmp (p := 4) (t1 := 5) (ty := 26) rfl _ _ (w.heap.size + 1) 26 (noteCells A2 A5 A6 A7 k2 k5 k6 k7 ⟨n.s, n.e, bl, kw⟩) _ rfl (nt_puts HR7.out A2 A5 A6 A7 k2 k5 k6 k7 ⟨n.s, n.e, bl, kw⟩) Try.underlying26 rfl infoNt) rfl ?_
        rw [HTB.out]
        exact ⟨_, _, _, _, _, _, _, _, rfl, HN8.out, below_puts HB7.out (by omega) _ _ _ _⟩

end Go.Proofs.Ytoaclofobfaflaa
