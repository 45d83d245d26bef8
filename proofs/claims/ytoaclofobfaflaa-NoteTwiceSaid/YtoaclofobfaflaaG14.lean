/-
  What telltaleref04's Told answers.
  What telltaleref04's Of answers.
  What note's isObject, formedWrites, Formed, Fits and News answer.
  What slices.IndexFunc and slices.DeleteFunc do at a list of writes, whatever the predicate, as long as that leaves all memory as it was.
-/
import Derived.Test.YtoaclofobfaflaaG13
import Derived.Test.YtoaclofobfaflaaG10
import Derived.Test.YtoaclofobfaflaaG12
import Derived.Test.YtoaclofobfaflaaG03
import Derived.Shelf.Abstract
namespace Go.Proofs.Ytoaclofobfaflaa
open Go.RowKit

namespace Nt
/-- What a note says of an object: its write, is it sharp, the error's number. -/
def told (n : Note) (o : Int) : Wr × Bool × Int :=
  if fmd n = true ∧ 0 ≤ o ∧ o ≤ 255 then (if (at_ n.ws o).2 = true then ((at_ n.ws o).1, true, 0) else (zeroW, !inOf n.b o, 8)) else (zeroW, false, 1)
def toldV (r : Wr × Bool × Int) : Value := .tuple #[wrV r.1, .bool r.2.1, .int .i64 r.2.2]
end Nt

/-- Four cells of a write are stored, one after the other. -/
theorem wr_puts {w : World} {g : Nat} {t : TypeId} {y0 y1 y2 y3 : Value} (hB : Blk w g t #[y0, y1, y2, y3]) (x : Wr) : Blk ((((w.setCell ⟨g, 0, none⟩ (.int .i64 x.1)).setCell ⟨g, 1, none⟩ (.int .i64 x.2.1)).setCell ⟨g, 2, none⟩ (.int .i64 x.2.2.1)).setCell ⟨g, 3, none⟩ (.bool x.2.2.2)) g t (Nt.wrArr x) := (((hB.put 0 _).put 1 _).put 2 _).put 3 _
theorem below_puts {w0 w : World} {g : Nat} (hb : Below w0.heap.size w0 w) (hg : w0.heap.size ≤ g) (x0 x1 x2 x3 : Value) : Below w0.heap.size w0 ((((w.setCell ⟨g, 0, none⟩ x0).setCell ⟨g, 1, none⟩ x1).setCell ⟨g, 2, none⟩ x2).setCell ⟨g, 3, none⟩ x3) :=
  (((hb.setCell (p := ⟨g, 0, none⟩) hg _).setCell (p := ⟨g, 1, none⟩) hg _).setCell (p := ⟨g, 2, none⟩) hg _).setCell (p := ⟨g, 3, none⟩) hg _
theorem wr_cells {w : World} {g : Nat} {t : TypeId} {x : Wr} (h : Blk w g t (Nt.wrArr x)) : (w.cell? ⟨g, 0, none⟩ = some (.int .i64 x.1) ∧ w.cell? ⟨g, 1, none⟩ = some (.int .i64 x.2.1) ∧ w.cell? ⟨g, 2, none⟩ = some (.int .i64 x.2.2.1) ∧ w.cell? ⟨g, 3, none⟩ = some (.bool x.2.2.2)) ∧
    (w.frozen? ⟨g, 0, none⟩ = false ∧ w.frozen? ⟨g, 1, none⟩ = false ∧ w.frozen? ⟨g, 2, none⟩ = false ∧ w.frozen? ⟨g, 3, none⟩ = false) := ⟨⟨h.cell rfl, h.cell rfl, h.cell rfl, h.cell rfl⟩, h.free 0, h.free 1, h.free 2, h.free 3⟩

set_option maxRecDepth 100000 in
set_option maxHeartbeats 3200000 in
theorem ntold_any (S E B V : Option Addr) (cs ce cb cv : Nat) (n : Note) (o : Int) (w : World) (h1 : NoteAt w S E B V cs ce cb cv n) :
    Calls Try.prog 24 #[.agg (noteCells S E B V cs ce cb cv n), .int .i64 o] w (Says (Nt.toldV (Nt.told n o)) w) := by
  obtain ⟨W, hW⟩ : ∃ W, (w.alloc (.cells (noteCells S E B V cs ce cb cv n) 26)).alloc (.cells #[.int .i64 0, .int .i64 0, .int .i64 0, .bool false] 35) = W := ⟨_, rfl⟩
  have hb0 : Below w.heap.size w W := by rw [← hW]; exact below_new (below_new (Below.refl _ _) _) _
  have hB0 : Blk W w.heap.size 26 (noteCells S E B V cs ce cb cv n) := by rw [← hW]; exact (Blk.new w _ _).alloc _
  have hB1 : Blk W (w.heap.size + 1) 35 (Nt.wrArr Nt.zeroW) := by
    rw [← hW, show w.heap.size + 1 = (w.alloc (.cells (noteCells S E B V cs ce cb cv n) 26)).heap.size from by simp]
    exact Blk.new _ _ _
  obtain ⟨c0, c1, c2, c3⟩ := note_cells hB0
  have p0 := c0
  have p1 := c1
  have p2 := c2
  have p3 := c3
  rw [← hW] at p0 p1 p2 p3
  have HN := Lib.hid (h1.later hb0)
  have HB1 := Lib.hid hB1
  have N0 := Lib.hid (nformed_any S E B V cs ce cb cv n W (h1.later hb0))
  have HT := Lib.hid (show Nt.told n o = if Nt.fmd n = true ∧ 0 ≤ o ∧ o ≤ 255 then (if (Nt.at_ n.ws o).2 = true then ((Nt.at_ n.ws o).1, true, 0) else (Nt.zeroW, !inOf n.b o, 8)) else (Nt.zeroW, false, 1) from rfl)
  obtain ⟨x0, hx0⟩ : ∃ x, Nt.fmd n = x := ⟨_, rfl⟩
  rw [hx0] at N0 HT
  have HW := Lib.hid hW
  clear hW hB0 hB1 h1 hx0
  have hcs : (x0 = false) ∨ (x0 = true ∧ decide (o < 0) = true ∧ o < 0) ∨ (x0 = true ∧ decide (o < 0) = false ∧ 0 ≤ o ∧ decide (255 < o) = true ∧ 255 < o) ∨ (x0 = true ∧ decide (o < 0) = false ∧ 0 ≤ o ∧ decide (255 < o) = false ∧ o ≤ 255) := by
    cases x0
    · exact .inl rfl
    · by_cases h1 : o < 0
      · exact .inr (.inl ⟨rfl, decide_eq_true h1, h1⟩)
      · by_cases h2 : 255 < o
        · exact .inr (.inr (.inl ⟨rfl, decide_eq_false h1, by omega, decide_eq_true h2, h2⟩))
        · exact .inr (.inr (.inr ⟨rfl, decide_eq_false h1, by omega, decide_eq_false h2, by omega⟩))
  have fin : ∀ wx, Blk wx (w.heap.size + 1) 35 (Nt.wrArr Nt.zeroW) → True := fun _ _ => trivial
  clear fin
  rcases hcs with rfl | ⟨rfl, d1, d2⟩ | ⟨rfl, d1, d2, d3, d4⟩ | hyes
  case inr.inr.inr =>
    obtain ⟨rfl, d1, d2, d3, d4⟩ := hyes
    have HT2 := Lib.hid (HT.out.trans (if_pos ⟨rfl, d2, d4⟩))
    obtain ⟨⟨x, ok⟩, hat⟩ : ∃ r, Nt.at_ n.ws o = r := ⟨_, rfl⟩
    rw [hat] at HT2
    have na := fun wx (hb : Below W.heap.size W wx) => nat_any V cv n.ws o wx (HN.out.hv.later hb)
    rw [hat] at na
    have NA := Lib.hid (fun wx (hb : Below W.heap.size W wx) => (show Calls Try.prog 52 #[.slice V n.ws.length cv, .int .i64 o] wx (Says (.tuple #[.agg #[.int .i64 x.1, .int .i64 x.2.1, .int .i64 x.2.2.1, .bool x.2.2.2], .bool ok]) wx) from na wx hb))
    have NH := Lib.hid (fun wx (hb : Below W.heap.size W wx) => shas_any B cb n.b o wx (HN.out.hb.later hb))
    obtain ⟨ib, hib⟩ : ∃ ib, inOf n.b o = ib := ⟨_, rfl⟩
    rw [hib] at NH HT2
    clear na hat hib
    go_enter Try.func24, Try.ntmps24
    go_wp2_with fail
    rw [HW.out]
    refine N0.out.mono ?_
    rintro e w1 ⟨rfl, b1⟩
    have q3 := cell_later b1 c3
    go_wp2_with fail
    refine (NA.out _ b1).mono ?_
    rintro e w2 ⟨rfl, b2⟩
    have bb2 := below_on b1 b2
    have hq := (HB1.out.later bb2).alloc (.cells #[.int .i64 x.1, .int .i64 x.2.1, .int .i64 x.2.2.1, .bool x.2.2.2] 35)
    have b3 := below_new bb2 (.cells #[.int .i64 x.1, .int .i64 x.2.1, .int .i64 x.2.2.1, .bool x.2.2.2] 35)
    have u2 := cell_later b3 c2
    cases ok with
    | true =>
      obtain ⟨⟨z0, z1, z2, z3⟩, y0, y1, y2, y3⟩ := wr_cells hq
      have HQ := Lib.hid hq
      clear hq
      go_wp2
      exact bodyPost_ret (v := Nt.toldV (x, true, 0)) (results_cell_tmp2 (p := 4) (t1 := 5) (t2 := 6) (ty := 35) rfl _ _ (w.heap.size + 1) 35 (Nt.wrArr x) _ rfl (wr_puts HQ.out x) Try.underlying35 rfl infoW4) rfl ⟨by rw [HT2.out]; rfl, below_puts (below_on hb0 b3) (by omega) _ _ _ _⟩
    | false =>
      have HQ0 := Lib.hid hq
      clear hq
      go_wp2_with fail
      refine (NH.out _ b3).mono ?_
      rintro e w4 ⟨rfl, b4⟩
      have hq := HQ0.out.later b4
      obtain ⟨⟨z0, z1, z2, z3⟩, y0, y1, y2, y3⟩ := wr_cells hq
      have HQ := Lib.hid hq
      clear hq
      go_wp2
      exact bodyPost_ret (v := Nt.toldV (Nt.zeroW, !ib, 8)) (results_cell_tmp2 (p := 4) (t1 := 5) (t2 := 6) (ty := 35) rfl _ _ (w.heap.size + 1) 35 (Nt.wrArr Nt.zeroW) _ rfl (wr_puts HQ.out Nt.zeroW) Try.underlying35 rfl infoW4) rfl ⟨by rw [HT2.out]; rfl, below_puts (below_on hb0 (below_on b3 b4)) (by omega) _ _ _ _⟩
  all_goals
    have HT2 := Lib.hid (HT.out.trans (if_neg (fun h => by first | (cases h.1; done) | omega)))
    go_enter Try.func24, Try.ntmps24
    go_wp2_with fail
    rw [HW.out]
    refine N0.out.mono ?_
    rintro e w1 ⟨rfl, b1⟩
    have hq := HB1.out.later b1
    obtain ⟨⟨z0, z1, z2, z3⟩, y0, y1, y2, y3⟩ := wr_cells hq
    have HQ := Lib.hid hq
    clear hq
    go_wp2
    exact bodyPost_ret (v := Nt.toldV (Nt.zeroW, false, 1)) (results_cell_tmp2 (p := 4) (t1 := 5) (t2 := 6) (ty := 35) rfl _ _ (w.heap.size + 1) 35 (Nt.wrArr Nt.zeroW) _ rfl (wr_puts HQ.out Nt.zeroW) Try.underlying35 rfl infoW4) rfl ⟨by rw [HT2.out], below_puts (below_on hb0 b1) (by omega) _ _ _ _⟩

end Go.Proofs.Ytoaclofobfaflaa
namespace Go.Proofs.Ytoaclofobfaflaa
open Go.RowKit

/-- The empty note. -/
def noNote : Note := ⟨[], [], [], []⟩
theorem noNote_at (w : World) : NoteAt w none none none none 0 0 0 0 noNote := ⟨OneL.nil, OneL.nil, OneL.nil, OneW.nil⟩
theorem one_write {w : World} {g : Nat} {t : TypeId} {y : Wr} (hB : Blk w g t (Nt.wrArr y)) : OneW w (some ⟨g, 0, none⟩) 1 [y] :=
  ⟨Nat.le_refl _, (by unfold maxLen; omega), (fun h => by cases h), fun _ => ⟨g, 0, rfl, fun j u hu => by
    rw [Nat.zero_add]
    exact hB.cell (by simpa [Nt.wrCells, Nt.wrCell, Nt.wrArr] using hu)⟩⟩
/-- The note of one write, or an error's number. -/
def ofN (l : List (Int × Int)) (y : Wr) : Note × Int :=
  if (Ve.fmd l = true ∧ St.rgt y.1 y.2.1 = true) ∧ (0 ≤ y.2.2.1 ∧ y.2.2.1 ≤ 255) ∧ hasOf l y.1 y.2.1 = false then (⟨l, Ve.joinL [l, [(y.1, y.2.1)]], [], [y]⟩, 0) else (noNote, 1)

/-- Four slices of a note are stored, one after the other. -/
theorem nt_puts {w : World} {g : Nat} {t : TypeId} {y0 y1 y2 y3 : Value} (hB : Blk w g t #[y0, y1, y2, y3]) (S E B V : Option Addr) (cs ce cb cv : Nat) (n : Note) : Blk ((((w.setCell ⟨g, 0, none⟩ (.slice S n.s.length cs)).setCell ⟨g, 1, none⟩ (.slice E n.e.length ce)).setCell ⟨g, 2, none⟩ (.slice B n.b.length cb)).setCell ⟨g, 3, none⟩ (.slice V n.ws.length cv)) g t (noteCells S E B V cs ce cb cv n) := (((hB.put 0 _).put 1 _).put 2 _).put 3 _
theorem nt_cells {w : World} {g : Nat} {t : TypeId} {y0 y1 y2 y3 : Value} (h : Blk w g t #[y0, y1, y2, y3]) : (w.cell? ⟨g, 0, none⟩ = some y0 ∧ w.cell? ⟨g, 1, none⟩ = some y1 ∧ w.cell? ⟨g, 2, none⟩ = some y2 ∧ w.cell? ⟨g, 3, none⟩ = some y3) ∧
    (w.frozen? ⟨g, 0, none⟩ = false ∧ w.frozen? ⟨g, 1, none⟩ = false ∧ w.frozen? ⟨g, 2, none⟩ = false ∧ w.frozen? ⟨g, 3, none⟩ = false) := ⟨⟨h.cell rfl, h.cell rfl, h.cell rfl, h.cell rfl⟩, h.free 0, h.free 1, h.free 2, h.free 3⟩

set_option maxRecDepth 100000 in
set_option maxHeartbeats 6400000 in
theorem nof_any (A : Option Addr) (c : Nat) (l : List (Int × Int)) (y : Wr) (w : World) (hl16 : l.length * 16 ≤ 140737488355328) (h1 : OneL w A c l) :
    Calls Try.prog 21 #[.slice A l.length c, .agg (Nt.wrArr y)] w (AnsNE (ofN l y).1 (ofN l y).2 w) := by
  obtain ⟨W, hW⟩ : ∃ W, (w.alloc (.cells (Nt.wrArr y) 35)).alloc (.cells #[.slice none 0 0, .slice none 0 0, .slice none 0 0, .slice none 0 0] 26) = W := ⟨_, rfl⟩
  have hb0 : Below w.heap.size w W := by rw [← hW]; exact below_new (below_new (Below.refl _ _) _) _
  have hB0 : Blk W w.heap.size 35 (Nt.wrArr y) := by rw [← hW]; exact (Blk.new w _ _).alloc _
  have hB1 : Blk W (w.heap.size + 1) 26 #[.slice none 0 0, .slice none 0 0, .slice none 0 0, .slice none 0 0] := by
    rw [← hW, show w.heap.size + 1 = (w.alloc (.cells (Nt.wrArr y) 35)).heap.size from by simp]
    exact Blk.new _ _ _
  obtain ⟨⟨c0, c1, c2, c3⟩, -⟩ := wr_cells hB0
  have HB1 := Lib.hid hB1
  have hL := h1.later hb0
  have N0 := Lib.hid (rformed_any A c l W hL.len hL.stamps)
  have N1 := Lib.hid (fun wx => rright_any y.1 y.2.1 wx)
  have N2 := Lib.hid (fun wx (hb : Below W.heap.size W wx) => rhas_any A c l y.1 y.2.1 wx hL.len (hL.later hb).stamps)
  have HL := Lib.hid hL
  have HT := Lib.hid (show ofN l y = if (Ve.fmd l = true ∧ St.rgt y.1 y.2.1 = true) ∧ (0 ≤ y.2.2.1 ∧ y.2.2.1 ≤ 255) ∧ hasOf l y.1 y.2.1 = false then (⟨l, Ve.joinL [l, [(y.1, y.2.1)]], [], [y]⟩, 0) else (noNote, 1) from rfl)
  obtain ⟨x0, hx0⟩ : ∃ x, Ve.fmd l = x := ⟨_, rfl⟩
  obtain ⟨x1, hx1⟩ : ∃ x, St.rgt y.1 y.2.1 = x := ⟨_, rfl⟩
  obtain ⟨x2, hx2⟩ : ∃ x, hasOf l y.1 y.2.1 = x := ⟨_, rfl⟩
  rw [hx0] at N0 HT
  rw [hx1] at N1 HT
  rw [hx2] at N2 HT
  have HW0 := Lib.hid hW
  clear hW hB0 hB1 h1 hL hx0 hx1 hx2
  have fin : ∀ w1, Below W.heap.size W w1 → ofN l y = (noNote, 1) → AnsNE (ofN l y).1 (ofN l y).2 w (.returned (.tuple #[.agg (noteCells none none none none 0 0 0 0 noNote), .int .i64 1])) ((((w1.setCell ⟨w.heap.size + 1, 0, none⟩ (.slice none 0 0)).setCell ⟨w.heap.size + 1, 1, none⟩ (.slice none 0 0)).setCell ⟨w.heap.size + 1, 2, none⟩ (.slice none 0 0)).setCell ⟨w.heap.size + 1, 3, none⟩ (.slice none 0 0)) := fun w1 hb he => by
    rw [he]
    exact ⟨_, _, _, _, _, _, _, _, rfl, noNote_at _, below_puts (below_on hb0 hb) (by omega) _ _ _ _⟩
  have FIN := Lib.hid fin
  clear fin
  have hcs : (x0 = false) ∨ (x0 = true ∧ x1 = false) ∨ (x0 = true ∧ x1 = true ∧ decide (y.2.2.1 < 0) = true ∧ y.2.2.1 < 0) ∨ (x0 = true ∧ x1 = true ∧ decide (y.2.2.1 < 0) = false ∧ 0 ≤ y.2.2.1 ∧ decide (255 < y.2.2.1) = true ∧ 255 < y.2.2.1) ∨ (x0 = true ∧ x1 = true ∧ decide (y.2.2.1 < 0) = false ∧ 0 ≤ y.2.2.1 ∧ decide (255 < y.2.2.1) = false ∧ y.2.2.1 ≤ 255 ∧ x2 = true) ∨ (x0 = true ∧ x1 = true ∧ decide (y.2.2.1 < 0) = false ∧ 0 ≤ y.2.2.1 ∧ decide (255 < y.2.2.1) = false ∧ y.2.2.1 ≤ 255 ∧ x2 = false) := by
    cases x0
    · exact .inl rfl
    · cases x1
      · exact .inr (.inl ⟨rfl, rfl⟩)
      · by_cases h1 : y.2.2.1 < 0
        · exact .inr (.inr (.inl ⟨rfl, rfl, decide_eq_true h1, h1⟩))
        · by_cases h2 : 255 < y.2.2.1
          · exact .inr (.inr (.inr (.inl ⟨rfl, rfl, decide_eq_false h1, by omega, decide_eq_true h2, h2⟩)))
          · cases x2
            · exact .inr (.inr (.inr (.inr (.inr ⟨rfl, rfl, decide_eq_false h1, by omega, decide_eq_false h2, by omega, rfl⟩))))
            · exact .inr (.inr (.inr (.inr (.inl ⟨rfl, rfl, decide_eq_false h1, by omega, decide_eq_false h2, by omega, rfl⟩))))
  rcases hcs with rfl | ⟨rfl, rfl⟩ | ⟨rfl, rfl, d1, d2⟩ | ⟨rfl, rfl, d1, d2, d3, d4⟩ | ⟨rfl, rfl, d1, d2, d3, d4, rfl⟩ | ⟨rfl, rfl, d1, d2, d3, d4, rfl⟩
  · have HT2 := Lib.hid (HT.out.trans (if_neg (fun h => by cases h.1.1)))
    go_enter Try.func21, Try.ntmps21
    go_wp2_with fail
    rw [HW0.out]
    refine N0.out.mono ?_
    rintro e w1 ⟨rfl, b1⟩
    have hq := HB1.out.later b1
    obtain ⟨⟨z0, z1, z2, z3⟩, r0, r1, r2, r3⟩ := nt_cells hq
    have HQ := Lib.hid hq
    clear hq
    go_wp2
    exact bodyPost_ret (results_cell_tmp (p := 4) (t1 := 5) (ty := 26) rfl _ _ (w.heap.size + 1) 26 (noteCells none none none none 0 0 0 0 noNote) _ rfl (nt_puts HQ.out none none none none 0 0 0 0 noNote) Try.underlying26 rfl infoNt) rfl (FIN.out _ b1 HT2.out)
  · have HT2 := Lib.hid (HT.out.trans (if_neg (fun h => by cases h.1.2)))
    go_enter Try.func21, Try.ntmps21
    go_wp2_with fail
    rw [HW0.out]
    refine N0.out.mono ?_
    rintro e w1 ⟨rfl, b1⟩
    have m0 := cell_later b1 c0
    have m1 := cell_later b1 c1
    go_wp2_with fail
    refine (N1.out _).mono ?_
    rintro e w2 ⟨rfl, b2⟩
    have bb2 := below_on b1 b2
    have hq := HB1.out.later bb2
    obtain ⟨⟨z0, z1, z2, z3⟩, r0, r1, r2, r3⟩ := nt_cells hq
    have HQ := Lib.hid hq
    clear hq
    go_wp2
    exact bodyPost_ret (results_cell_tmp (p := 4) (t1 := 5) (ty := 26) rfl _ _ (w.heap.size + 1) 26 (noteCells none none none none 0 0 0 0 noNote) _ rfl (nt_puts HQ.out none none none none 0 0 0 0 noNote) Try.underlying26 rfl infoNt) rfl (FIN.out _ bb2 HT2.out)
  · have HT2 := Lib.hid (HT.out.trans (if_neg (fun h => by have := h.2.1.1; omega)))
    go_enter Try.func21, Try.ntmps21
    go_wp2_with fail
    rw [HW0.out]
    refine N0.out.mono ?_
    rintro e w1 ⟨rfl, b1⟩
    have m0 := cell_later b1 c0
    have m1 := cell_later b1 c1
    go_wp2_with fail
    refine (N1.out _).mono ?_
    rintro e w2 ⟨rfl, b2⟩
    have bb2 := below_on b1 b2
    have m2 := cell_later bb2 c2
    have m00 := cell_later bb2 c0
    have m11 := cell_later bb2 c1
    have hq := HB1.out.later bb2
    obtain ⟨⟨z0, z1, z2, z3⟩, r0, r1, r2, r3⟩ := nt_cells hq
    have HQ := Lib.hid hq
    clear hq
    go_wp2
    exact bodyPost_ret (results_cell_tmp (p := 4) (t1 := 5) (ty := 26) rfl _ _ (w.heap.size + 1) 26 (noteCells none none none none 0 0 0 0 noNote) _ rfl (nt_puts HQ.out none none none none 0 0 0 0 noNote) Try.underlying26 rfl infoNt) rfl (FIN.out _ bb2 HT2.out)
  · have HT2 := Lib.hid (HT.out.trans (if_neg (fun h => by have := h.2.1.2; omega)))
    go_enter Try.func21, Try.ntmps21
    go_wp2_with fail
    rw [HW0.out]
    refine N0.out.mono ?_
    rintro e w1 ⟨rfl, b1⟩
    have m0 := cell_later b1 c0
    have m1 := cell_later b1 c1
    go_wp2_with fail
    refine (N1.out _).mono ?_
    rintro e w2 ⟨rfl, b2⟩
    have bb2 := below_on b1 b2
    have m2 := cell_later bb2 c2
    have m00 := cell_later bb2 c0
    have m11 := cell_later bb2 c1
    have hq := HB1.out.later bb2
    obtain ⟨⟨z0, z1, z2, z3⟩, r0, r1, r2, r3⟩ := nt_cells hq
    have HQ := Lib.hid hq
    clear hq
    go_wp2
    exact bodyPost_ret (results_cell_tmp (p := 4) (t1 := 5) (ty := 26) rfl _ _ (w.heap.size + 1) 26 (noteCells none none none none 0 0 0 0 noNote) _ rfl (nt_puts HQ.out none none none none 0 0 0 0 noNote) Try.underlying26 rfl infoNt) rfl (FIN.out _ bb2 HT2.out)
  · have HT2 := Lib.hid (HT.out.trans (if_neg (fun h => by cases h.2.2)))
    go_enter Try.func21, Try.ntmps21
    go_wp2_with fail
    rw [HW0.out]
    refine N0.out.mono ?_
    rintro e w1 ⟨rfl, b1⟩
    have m0 := cell_later b1 c0
    have m1 := cell_later b1 c1
    go_wp2_with fail
    refine (N1.out _).mono ?_
    rintro e w2 ⟨rfl, b2⟩
    have bb2 := below_on b1 b2
    have m2 := cell_later bb2 c2
    have m00 := cell_later bb2 c0
    have m11 := cell_later bb2 c1
    go_wp2_with fail
    refine (N2.out _ bb2).mono ?_
    rintro e w3 ⟨rfl, b3⟩
    have bb3 := below_on bb2 b3
    have hq := HB1.out.later bb3
    obtain ⟨⟨z0, z1, z2, z3⟩, r0, r1, r2, r3⟩ := nt_cells hq
    have HQ := Lib.hid hq
    clear hq
    go_wp2
    exact bodyPost_ret (results_cell_tmp (p := 4) (t1 := 5) (ty := 26) rfl _ _ (w.heap.size + 1) 26 (noteCells none none none none 0 0 0 0 noNote) _ rfl (nt_puts HQ.out none none none none 0 0 0 0 noNote) Try.underlying26 rfl infoNt) rfl (FIN.out _ bb3 HT2.out)
  · have HT2 := Lib.hid (HT.out.trans (if_pos ⟨⟨rfl, rfl⟩, ⟨d2, d4⟩, rfl⟩))
    go_enter Try.func21, Try.ntmps21
    go_wp2_with fail
    rw [HW0.out]
    refine N0.out.mono ?_
    rintro e w1 ⟨rfl, b1⟩
    have m0 := cell_later b1 c0
    have m1 := cell_later b1 c1
    go_wp2_with fail
    refine (N1.out _).mono ?_
    rintro e w2 ⟨rfl, b2⟩
    have bb2 := below_on b1 b2
    have m2 := cell_later bb2 c2
    have m00 := cell_later bb2 c0
    have m11 := cell_later bb2 c1
    go_wp2_with fail
    refine (N2.out _ bb2).mono ?_
    rintro e w3 ⟨rfl, b3⟩
    have bb3 := below_on bb2 b3
    go_wp2_with fail
    have p0 := cell_later bb3 c0
    have p1 := cell_later bb3 c1
    have p2 := cell_later bb3 c2
    have p3 := cell_later bb3 c3
    have hL3 := HL.out.later bb3
    have NC := Lib.hid (fun wx (hb : Below w3.heap.size w3 wx) => (rcopy_any A c l wx hl16 (hL3.later hb).2.2.1 (hL3.later hb).2.2.2).mono fun _ _ hg => hg.one)
    have NW := Lib.hid (fun wx (hb : Below w3.heap.size w3 wx) => (rwith_any A c l y.1 y.2.1 wx (hL3.later hb)).mono fun _ _ hg => hg.one)
    clear hL3
    refine wp_region_facts 8 (by kernel_rfl) (by kernel_rfl)
      (fun v => { tmps := #[.slice A l.length c, .agg (Nt.wrArr y), undef, .pointer (some ⟨w.heap.size, 0, none⟩), .pointer (some ⟨w.heap.size + 1, 0, none⟩), .int .i64 0, .slice A l.length c, .bool true, .bool false, .bool false, .pointer (some ⟨w.heap.size, 0, none⟩), .agg #[.int .i64 y.1, .int .i64 y.2.1], .bool true, .bool false, .bool false, .bool false, .pointer (some ⟨w.heap.size, 2, none⟩), .int .i64 y.2.2.1, .bool false, .bool false, .bool false, .pointer (some ⟨w.heap.size, 2, none⟩), .int .i64 y.2.2.1, .bool false, .bool false, .bool false, .slice A l.length c, .pointer (some ⟨w.heap.size, 0, none⟩), .agg #[.int .i64 y.1, .int .i64 y.2.1], .bool false, .bool false, undef, v 0, v 1, v 2, v 3, v 4, v 5, v 6, v 7, undef], defers := [] }) (fun _ => undef)
      (fun i x wx => match i with
        | 0 => x = .slice A l.length c
        | 1 => ∃ A' c', x = .slice A' l.length c' ∧ OneL wx A' c' l
        | 2 => x = .slice A l.length c
        | 3 => x = .pointer (some ⟨w.heap.size, 0, none⟩)
        | 4 => x = .agg #[.int .i64 y.1, .int .i64 y.2.1]
        | 5 => ∃ A' c', x = .slice A' (Ve.joinL [l, [(y.1, y.2.1)]]).length c' ∧ OneL wx A' c' (Ve.joinL [l, [(y.1, y.2.1)]])
        | 6 => x = .agg #[.int .i64 y.1, .int .i64 y.2.1, .int .i64 y.2.2.1, .bool y.2.2.2]
        | 7 => ∃ A c, x = .slice A [y].length c ∧ OneW wx A c [y]
        | _ => True)
      (fun w1 w2 => Below w1.heap.size w1 w2) (fun h1 h2 => below_on h1 h2) (fun _ => Below.refl _ _) (Below.drew (Below.refl _ _)) ?stab ?step ?done
    case stab =>
      rintro i x w1 w2 h hb
      match i, h with
      | 0, h => exact h
      | 1, h => obtain ⟨A, c, h1, h2⟩ := h; exact ⟨A, c, h1, h2.later hb⟩
      | 2, h => exact h
      | 3, h => exact h
      | 4, h => exact h
      | 5, h => obtain ⟨A, c, h1, h2⟩ := h; exact ⟨A, c, h1, h2.later hb⟩
      | 6, h => exact h
      | 7, h => obtain ⟨A, c, h1, h2⟩ := h; exact ⟨A, c, h1, h2.later hb⟩
      | i + 8, _ => trivial
    case step =>
      intro i hi v w' hb hd
      match i, hi with
      | 0, _ =>
        refine wpOp_one rfl ?_
        clear hd
        go_wp2
        exact ⟨_, by simp [upd]; done, Below.refl _ _, rfl⟩
      | 1, _ =>
        have h0 : v 0 = _ := hd 0 (List.elem_iff.1 (by kernel_rfl))
        refine wpOp_one rfl ?_
        clear hd
        rw [h0]
        go_wp2_with fail
        refine (NC.out _ hb).mono ?_
        rintro e w'' hg
        obtain ⟨A, c, rfl, ho, b⟩ := hg
        go_wp2
        exact ⟨_, by simp [upd, h0]; done, b, A, c, rfl, ho⟩
      | 2, _ =>
        refine wpOp_one rfl ?_
        clear hd
        go_wp2
        exact ⟨_, by simp [upd]; done, Below.refl _ _, rfl⟩
      | 3, _ =>
        refine wpOp_one rfl ?_
        clear hd
        go_wp2
        exact ⟨_, by simp [upd]; done, Below.refl _ _, rfl⟩
      | 4, _ =>
        have h3 : v 3 = _ := hd 3 (List.elem_iff.1 (by kernel_rfl))
        refine wpOp_one rfl ?_
        clear hd
        rw [h3]
        have q0 := cell_later hb p0
        have q1 := cell_later hb p1
        go_wp2
        exact ⟨_, by simp [upd, h3]; done, Below.refl _ _, rfl⟩
      | 5, _ =>
        have h2 : v 2 = _ := hd 2 (List.elem_iff.1 (by kernel_rfl))
        have h4 : v 4 = _ := hd 4 (List.elem_iff.1 (by kernel_rfl))
        refine wpOp_one rfl ?_
        clear hd
        rw [h2, h4]
        go_wp2_with fail
        refine (NW.out _ hb).mono ?_
        rintro e w'' hg
        obtain ⟨A, c, rfl, ho, b⟩ := hg
        go_wp2
        exact ⟨_, by simp [upd, h2, h4]; done, b, A, c, rfl, ho⟩
      | 6, _ =>
        refine wpOp_one rfl ?_
        clear hd
        have q0 := cell_later hb p0
        have q1 := cell_later hb p1
        have q2 := cell_later hb p2
        have q3 := cell_later hb p3
        go_wp2
        exact ⟨_, by simp [upd]; done, Below.refl _ _, rfl⟩
      | 7, _ =>
        have h6 : v 6 = _ := hd 6 (List.elem_iff.1 (by kernel_rfl))
        refine wpOp_one rfl ?_
        clear hd
        rw [h6]
        have hz := hb.size
        go_wp2
        exact ⟨_, by simp [upd, h6]; done, below_new (Below.refl _ _) _, some ⟨w'.heap.size, 0, none⟩, 1, rfl, one_write (Blk.new w' _ _)⟩
    case done =>
      intro v w' hb hf
      obtain ⟨A2, k2, h2, o2⟩ := hf 1 (by omega)
      obtain ⟨A5, k5, h5, o5⟩ := hf 5 (by omega)
      obtain ⟨A7, k7, h7, o7⟩ := hf 7 (by omega)
      have HO := Lib.hid (show NoteAt w' A2 A5 none A7 k2 k5 0 k7 ⟨l, Ve.joinL [l, [(y.1, y.2.1)]], [], [y]⟩ from NoteAt.mk o2 o5 OneL.nil o7)
      have hB := HB1.out.later (below_on bb3 hb)
      have hbw := below_on hb0 (below_on bb3 hb)
      clear o2 o5 o7 hf
      simp only [List.drop_succ_cons, List.drop_zero]
      rw [h2, h5, h7]
      obtain ⟨⟨z0, z1, z2, z3⟩, r0, r1, r2, r3⟩ := nt_cells hB
      go_wp2
      have hN4 := HO.out.puts hB ⟨rfl, rfl, rfl, rfl⟩ (.slice A2 l.length k2) (.slice A5 (Ve.joinL [l, [(y.1, y.2.1)]]).length k5) (.slice none 0 0) (.slice A7 1 k7) ⟨rfl, rfl, rfl⟩
      refine bodyPost_ret (results_cell_tmp (p := 4) (t1 := 5) (ty := 26) rfl _ _ (w.heap.size + 1) 26 (noteCells A2 A5 none A7 k2 k5 0 k7 ⟨l, Ve.joinL [l, [(y.1, y.2.1)]], [], [y]⟩) _ rfl (nt_puts hB A2 A5 none A7 k2 k5 0 k7 ⟨l, Ve.joinL [l, [(y.1, y.2.1)]], [], [y]⟩) Try.underlying26 rfl infoNt) rfl ?_
      rw [HT2.out]
      exact ⟨_, _, _, _, _, _, _, _, rfl, hN4, below_puts hbw (by omega) _ _ _ _⟩

end Go.Proofs.Ytoaclofobfaflaa
namespace Go.Proofs.Ytoaclofobfaflaa
open Go.RowKit Fb

set_option maxHeartbeats 800000 in
theorem nisObject_any (o : Int) (w : World) : Calls Try.prog 45 #[.int .i64 o] w (Says (.bool (decide (0 ≤ o ∧ o ≤ 255))) w) := by
  by_cases h0 : 0 ≤ o
  · have d0 : decide (0 ≤ o) = true := decide_eq_true h0
    by_cases h1 : o < 256
    · have d1 : decide (o < 256) = true := decide_eq_true h1
      rw [show decide (0 ≤ o ∧ o ≤ 255) = true from decide_eq_true (by omega)]
      go_enter Try.func45, Try.ntmps45
      go_wp2
      go_ret
      exact ⟨rfl, Below.refl _ _⟩
    · have d1 : decide (o < 256) = false := decide_eq_false h1
      rw [show decide (0 ≤ o ∧ o ≤ 255) = false from decide_eq_false (by omega)]
      go_enter Try.func45, Try.ntmps45
      go_wp2
      go_ret
      exact ⟨rfl, Below.refl _ _⟩
  · have d0 : decide (0 ≤ o) = false := decide_eq_false h0
    rw [show decide (0 ≤ o ∧ o ≤ 255) = false from decide_eq_false (by omega)]
    go_enter Try.func45, Try.ntmps45
    go_wp2
    go_ret
    exact ⟨rfl, Below.refl _ _⟩

namespace Nt
/-- The object of the last of the first k writes; -1 if there is none. -/
def lastO (l : List Wr) : Nat → Int
  | 0 => -1
  | k + 1 => obj l k
end Nt

set_option maxRecDepth 100000 in
set_option maxHeartbeats 6400000 in
theorem nformedWrites_any (S E B V : Option Addr) (cs ce cb cv : Nat) (n : Note) (w : World) (h1 : NoteAt w S E B V cs ce cb cv n) :
    Calls Try.prog 36 #[.agg (noteCells S E B V cs ce cb cv n)] w (Says (.bool (Nt.wsOk n)) w) := by
  obtain ⟨W, hW⟩ : ∃ W, w.alloc (.cells (noteCells S E B V cs ce cb cv n) 26) = W := ⟨_, rfl⟩
  have hb0 : Below w.heap.size w W := by rw [← hW]; exact below_new (Below.refl _ _) _
  have hB0 : Blk W w.heap.size 26 (noteCells S E B V cs ce cb cv n) := by rw [← hW]; exact Blk.new w _ _
  obtain ⟨c0, c1, c2, c3⟩ := note_cells hB0
  have p3 := c3
  rw [← hW] at p3
  have HN := Lib.hid (h1.later hb0)
  have NO := Lib.hid (fun wx o => nisObject_any o wx)
  have NH := Lib.hid (fun wx (hb : Below W.heap.size W wx) o => sphas_any B cb n.b o wx (HN.out.hb.later hb))
  have NE := Lib.hid (fun wx (hb : Below W.heap.size W wx) x y => has_any E ce n.e x y wx (HN.out.he.later hb))
  have HW := Lib.hid hW
  clear hW hB0 h1
  have bb0 := Below.refl W.heap.size W
  have hlenw := HN.out.hv.len
  go_enter Try.func36, Try.ntmps36
  go_wp2_with fail
  rw [HW.out]
  go_loopw [3, 9] (fun s3 s9 wr => ∃ k : Nat, k ≤ n.ws.length ∧ s9 = .int .i64 (k : Int) ∧ s3 = .int .i64 (Nt.lastO n.ws k) ∧ Nt.wsTo n k ∧ Below W.heap.size W wr) (fun _ s9 _ => n.ws.length - (intOf s9).toNat)
  case atStart => exact ⟨0, Nat.zero_le _, rfl, rfl, fun j hj => by omega, bb0⟩
  case round =>
    obtain ⟨k, hk, rfl, rfl, hall, hbw⟩ := hrel
    have HALL := Lib.hid hall
    have g1 := cell_later hbw c1
    have g2 := cell_later hbw c2
    clear hall p3
    by_cases hlt : k < n.ws.length
    · have hne : n.ws ≠ [] := fun e => by rw [e] at hlt; simp at hlt
      obtain ⟨b, off, hA, hcA⟩ := (HN.out.hv.later hbw).at hne
      subst hA
      obtain ⟨e0, e1, e2, e3⟩ := hcA k hlt
      have hi0 : (0 : Int) ≤ (k : Int) := by omega
      have hi1 : (k : Int) < (n.ws.length : Int) := by omega
      have hno := @Nt.wsOk_no n k hlt
      have hnx : hasOf n.e (n.ws.getD k Nt.zeroW).1 (n.ws.getD k Nt.zeroW).2.1 = true → (0 ≤ Nt.obj n.ws k ∧ Nt.obj n.ws k ≤ 255) → inOf n.b (Nt.obj n.ws k) = false → (0 < k → Nt.obj n.ws (k - 1) < Nt.obj n.ws k) → Nt.wsTo n (k + 1) := fun q1 q2 q3 q4 j hj => by
        by_cases e : j = k
        · subst e; exact ⟨q1, q2, q3, q4⟩
        · exact HALL.out j (by omega)
      have hob : (n.ws.getD k Nt.zeroW).2.2.1 = Nt.obj n.ws k := rfl
      rw [hob] at e2
      obtain ⟨ln, hln⟩ : ∃ ln, Nt.lastO n.ws k = ln := ⟨_, rfl⟩
      have hprev : 0 < k → Nt.obj n.ws (k - 1) = ln := fun h => by
        cases k with
        | zero => omega
        | succ m => rw [← hln]; rfl
      have hz : k = 0 → ln = -1 := fun h => by subst h; rw [← hln]; rfl
      have hnext : Nt.lastO n.ws (k + 1) = Nt.obj n.ws k := rfl
      rw [hln]
      obtain ⟨x, hx⟩ : ∃ x, (n.ws.getD k Nt.zeroW).1 = x := ⟨_, rfl⟩
      obtain ⟨y, hy⟩ : ∃ y, (n.ws.getD k Nt.zeroW).2.1 = y := ⟨_, rfl⟩
      obtain ⟨gn, hgn⟩ : ∃ gn, (n.ws.getD k Nt.zeroW).2.2.2 = gn := ⟨_, rfl⟩
      obtain ⟨o, ho⟩ : ∃ o, Nt.obj n.ws k = o := ⟨_, rfl⟩
      rw [hx] at e0 hno hnx
      rw [hy] at e1 hno hnx
      rw [hgn] at e3
      rw [ho] at e2 hno hnx hnext
      obtain ⟨hs, hhs⟩ : ∃ hs, hasOf n.e x y = hs := ⟨_, rfl⟩
      obtain ⟨ib, hib⟩ : ∃ ib, inOf n.b o = ib := ⟨_, rfl⟩
      obtain ⟨ob, hobb⟩ : ∃ ob, decide (0 ≤ o ∧ o ≤ 255) = ob := ⟨_, rfl⟩
      obtain ⟨W1, hW1⟩ : ∃ W1, wr.alloc (.cells #[.int .i64 x, .int .i64 y, .int .i64 o, .bool gn] 35) = W1 := ⟨_, rfl⟩
      have hbn : Below wr.heap.size wr W1 := by rw [← hW1]; exact below_new (Below.refl _ _) _
      have hB1 : Blk W1 wr.heap.size 35 #[.int .i64 x, .int .i64 y, .int .i64 o, .bool gn] := by rw [← hW1]; exact Blk.new wr _ _
      have hbw1 := below_on hbw hbn
      have q0 := hB1.cell (i := 0) rfl
      have q1 := hB1.cell (i := 1) rfl
      have q2 := hB1.cell (i := 2) rfl
      have m1 := cell_later hbn g1
      have m2 := cell_later hbn g2
      have cH := fun wx (hb : Below W1.heap.size W1 wx) => NE.out wx (below_on hbw1 hb) x y
      have cI := fun wx (hb : Below W1.heap.size W1 wx) => NH.out wx (below_on hbw1 hb) o
      have cO := fun wx => NO.out wx o
      rw [hhs] at cH hno hnx
      rw [hib] at cI hno hnx
      rw [hobb] at cO
      have CH := Lib.hid cH
      have CI := Lib.hid cI
      have CO := Lib.hid cO
      have HNo := Lib.hid hno
      have NX := Lib.hid hnx
      have PV := Lib.hid hprev
      have HZ := Lib.hid hz
      have HNT := Lib.hid hnext
      have HW1 := Lib.hid hW1
      have OB := Lib.hid hobb
      have B1 := Lib.hid hB1
      clear hcA hno hnx hprev cH cI cO hW1 hob hx hy hgn ho hhs hib hln hz hnext hobb hB1
      have hcs : (decide (o ≤ ln) = true ∧ o ≤ ln) ∨ (decide (o ≤ ln) = false ∧ ¬ o ≤ ln ∧ ob = false) ∨ (decide (o ≤ ln) = false ∧ ¬ o ≤ ln ∧ ob = true ∧ ib = true) ∨ (decide (o ≤ ln) = false ∧ ¬ o ≤ ln ∧ ob = true ∧ ib = false ∧ hs = false) ∨ (decide (o ≤ ln) = false ∧ ¬ o ≤ ln ∧ ob = true ∧ ib = false ∧ hs = true) := by
        by_cases h1 : o ≤ ln
        · exact .inl ⟨decide_eq_true h1, h1⟩
        · refine .inr ?_
          have d := decide_eq_false h1
          cases ob
          · exact .inl ⟨d, h1, rfl⟩
          · cases ib
            · cases hs
              · exact .inr (.inr (.inl ⟨d, h1, rfl, rfl, rfl⟩))
              · exact .inr (.inr (.inr ⟨d, h1, rfl, rfl, rfl⟩))
            · exact .inr (.inl ⟨d, h1, rfl, rfl⟩)
      rcases hcs with ⟨d, hd⟩ | ⟨d, hd, rfl⟩ | ⟨d, hd, rfl, rfl⟩ | ⟨d, hd, rfl, rfl, rfl⟩ | ⟨d, hd, rfl, rfl, rfl⟩
      · have HNO := Lib.hid (HNo.out (fun h => by
          have h4 := h.2.2.2
          by_cases hk0 : k = 0
          · have := HZ.out hk0; have := h.2.1.1; omega
          · have := h4 (by omega); rw [PV.out (by omega)] at this; omega))
        go_wp2_with fail
        have ba0 := Below.refl W1.heap.size W1
        skip
        go_ret
        exact ⟨by rw [HNO.out]; rfl, below_on hb0 (by rw [HW1.out]; exact hbw1)⟩
      · have HNO := Lib.hid (HNo.out (fun h => by have := of_decide_eq_false OB.out; exact this h.2.1))
        go_wp2_with fail
        rw [HW1.out]
        have ba0 := Below.refl W1.heap.size W1
        refine (CO.out _).mono ?_
        rintro e w1 ⟨rfl, b1⟩
        have ba1 := below_on ba0 b1
        have q0_1 := cell_later ba1 q0
        have q1_1 := cell_later ba1 q1
        have q2_1 := cell_later ba1 q2
        have m1_1 := cell_later ba1 m1
        have m2_1 := cell_later ba1 m2
        go_wp2
        go_ret
        exact ⟨by rw [HNO.out]; rfl, below_on hb0 (below_on hbw1 ba1)⟩
      · have HNO := Lib.hid (HNo.out (fun h => by have := h.2.2.1; cases this))
        go_wp2_with fail
        rw [HW1.out]
        have ba0 := Below.refl W1.heap.size W1
        refine (CO.out _).mono ?_
        rintro e w1 ⟨rfl, b1⟩
        have ba1 := below_on ba0 b1
        have q0_1 := cell_later ba1 q0
        have q1_1 := cell_later ba1 q1
        have q2_1 := cell_later ba1 q2
        have m1_1 := cell_later ba1 m1
        have m2_1 := cell_later ba1 m2
        go_wp2_with fail
        refine (CI.out _ ba1).mono ?_
        rintro e w2 ⟨rfl, b2⟩
        have ba2 := below_on ba1 b2
        have q0_2 := cell_later ba2 q0
        have q1_2 := cell_later ba2 q1
        have q2_2 := cell_later ba2 q2
        have m1_2 := cell_later ba2 m1
        have m2_2 := cell_later ba2 m2
        go_wp2
        go_ret
        exact ⟨by rw [HNO.out]; rfl, below_on hb0 (below_on hbw1 ba2)⟩
      · have HNO := Lib.hid (HNo.out (fun h => by have := h.1; cases this))
        go_wp2_with fail
        rw [HW1.out]
        have ba0 := Below.refl W1.heap.size W1
        refine (CO.out _).mono ?_
        rintro e w1 ⟨rfl, b1⟩
        have ba1 := below_on ba0 b1
        have q0_1 := cell_later ba1 q0
        have q1_1 := cell_later ba1 q1
        have q2_1 := cell_later ba1 q2
        have m1_1 := cell_later ba1 m1
        have m2_1 := cell_later ba1 m2
        go_wp2_with fail
        refine (CI.out _ ba1).mono ?_
        rintro e w2 ⟨rfl, b2⟩
        have ba2 := below_on ba1 b2
        have q0_2 := cell_later ba2 q0
        have q1_2 := cell_later ba2 q1
        have q2_2 := cell_later ba2 q2
        have m1_2 := cell_later ba2 m1
        have m2_2 := cell_later ba2 m2
        go_wp2_with fail
        refine (CH.out _ ba2).mono ?_
        rintro e w3 ⟨rfl, b3⟩
        have ba3 := below_on ba2 b3
        have q0_3 := cell_later ba3 q0
        have q1_3 := cell_later ba3 q1
        have q2_3 := cell_later ba3 q2
        have m1_3 := cell_later ba3 m1
        have m2_3 := cell_later ba3 m2
        go_wp2
        go_ret
        exact ⟨by rw [HNO.out]; rfl, below_on hb0 (below_on hbw1 ba3)⟩
      · have HT := Lib.hid (NX.out rfl (of_decide_eq_true OB.out) rfl (fun h => by rw [PV.out h]; omega))
        go_wp2_with fail
        rw [HW1.out]
        have ba0 := Below.refl W1.heap.size W1
        refine (CO.out _).mono ?_
        rintro e w1 ⟨rfl, b1⟩
        have ba1 := below_on ba0 b1
        have q0_1 := cell_later ba1 q0
        have q1_1 := cell_later ba1 q1
        have q2_1 := cell_later ba1 q2
        have m1_1 := cell_later ba1 m1
        have m2_1 := cell_later ba1 m2
        go_wp2_with fail
        refine (CI.out _ ba1).mono ?_
        rintro e w2 ⟨rfl, b2⟩
        have ba2 := below_on ba1 b2
        have q0_2 := cell_later ba2 q0
        have q1_2 := cell_later ba2 q1
        have q2_2 := cell_later ba2 q2
        have m1_2 := cell_later ba2 m1
        have m2_2 := cell_later ba2 m2
        go_wp2_with fail
        refine (CH.out _ ba2).mono ?_
        rintro e w3 ⟨rfl, b3⟩
        have ba3 := below_on ba2 b3
        have q0_3 := cell_later ba3 q0
        have q1_3 := cell_later ba3 q1
        have q2_3 := cell_later ba3 q2
        have m1_3 := cell_later ba3 m1
        have m2_3 := cell_later ba3 m2
        go_wp2_with fail
        go_roundw
        case rel => exact ⟨k + 1, by omega, by go_num, by rw [HNT.out], HT.out, below_on hbw1 ba3⟩
        case measure => simp [intOf]; omega
    · have hkl : k = n.ws.length := by omega
      have hok : Nt.wsOk n = true := (Nt.wsOk_iff n).2 (by rw [← hkl]; exact HALL.out)
      have HOK := Lib.hid hok
      clear hok
      subst hkl
      go_wp2
      go_ret
      exact ⟨by rw [HOK.out]; rfl, below_on hb0 hbw⟩

set_option maxRecDepth 100000 in
set_option maxHeartbeats 6400000 in
theorem dnformed_any (S E B V : Option Addr) (cs ce cb cv : Nat) (n : Note) (w : World) (h1 : NoteAt w S E B V cs ce cb cv n) :
    Calls Try.prog 12 #[.agg (noteCells S E B V cs ce cb cv n)] w (Says (.bool (Nt.fmd n)) w) := by
  obtain ⟨W, hW⟩ : ∃ W, w.alloc (.cells (noteCells S E B V cs ce cb cv n) 26) = W := ⟨_, rfl⟩
  have hb0 : Below w.heap.size w W := by rw [← hW]; exact below_new (Below.refl _ _) _
  have hB0 : Blk W w.heap.size 26 (noteCells S E B V cs ce cb cv n) := by rw [← hW]; exact Blk.new w _ _
  obtain ⟨c0, c1, c2, c3⟩ := note_cells hB0
  have p0 := c0
  rw [← hW] at p0
  have HN := Lib.hid (h1.later hb0)
  have HR := Lib.hid (show Nt.fmd n = (Ve.fmd n.s && (Ve.fmd n.e && (Ve.cov (Ve.cnt n.e) (Ve.cnt n.s) && (Sp.fmd n.b && Nt.wsOk n)))) from rfl)
  have N0 := Lib.hid (fun wx (hb : Below W.heap.size W wx) => formed_any S cs n.s wx (HN.out.hs.later hb))
  have N1 := Lib.hid (fun wx (hb : Below W.heap.size W wx) => formed_any E ce n.e wx (HN.out.he.later hb))
  have N2 := Lib.hid (fun wx (hb : Below W.heap.size W wx) => covers_any E S ce cs n.e n.s wx (HN.out.he.later hb) (HN.out.hs.later hb))
  have N3 := Lib.hid (fun wx (hb : Below W.heap.size W wx) => spformed_any B cb n.b wx (HN.out.hb.later hb))
  have N4 := Lib.hid (fun wx (hb : Below W.heap.size W wx) => (show Calls Try.prog 36 #[.agg #[.slice S n.s.length cs, .slice E n.e.length ce, .slice B n.b.length cb, .slice V n.ws.length cv]] wx (Says (.bool (Nt.wsOk n)) wx) from nformedWrites_any S E B V cs ce cb cv n wx (HN.out.later hb)))
  obtain ⟨x0, hx0⟩ : ∃ x, Ve.fmd n.s = x := ⟨_, rfl⟩
  obtain ⟨x1, hx1⟩ : ∃ x, Ve.fmd n.e = x := ⟨_, rfl⟩
  obtain ⟨x2, hx2⟩ : ∃ x, Ve.cov (Ve.cnt n.e) (Ve.cnt n.s) = x := ⟨_, rfl⟩
  obtain ⟨x3, hx3⟩ : ∃ x, Sp.fmd n.b = x := ⟨_, rfl⟩
  obtain ⟨x4, hx4⟩ : ∃ x, Nt.wsOk n = x := ⟨_, rfl⟩
  rw [hx0] at N0 HR
  rw [hx1] at N1 HR
  rw [hx2] at N2 HR
  rw [hx3] at N3 HR
  rw [hx4] at N4 HR
  have HW := Lib.hid hW
  clear hW hx0 hx1 hx2 hx3 hx4 hB0 h1
  have bb0 := Below.refl W.heap.size W
  cases x0 with
  | false =>
    go_enter Try.func12, Try.ntmps12
    go_wp2_with fail
    rw [HW.out]
    refine (N0.out _ bb0).mono ?_
    rintro e w1 ⟨rfl, b1⟩
    have bb1 := below_on bb0 b1
    have c0_1 := cell_later bb1 c0
    have c1_1 := cell_later bb1 c1
    have c2_1 := cell_later bb1 c2
    have c3_1 := cell_later bb1 c3
    clear p0
    go_wp2
    go_ret
    exact ⟨by rw [HR.out]; rfl, below_on hb0 bb1⟩
  | true =>
  cases x1 with
  | false =>
    go_enter Try.func12, Try.ntmps12
    go_wp2_with fail
    rw [HW.out]
    refine (N0.out _ bb0).mono ?_
    rintro e w1 ⟨rfl, b1⟩
    have bb1 := below_on bb0 b1
    have c0_1 := cell_later bb1 c0
    have c1_1 := cell_later bb1 c1
    have c2_1 := cell_later bb1 c2
    have c3_1 := cell_later bb1 c3
    clear p0
    go_wp2_with fail
    refine (N1.out _ bb1).mono ?_
    rintro e w2 ⟨rfl, b2⟩
    have bb2 := below_on bb1 b2
    have c0_2 := cell_later bb2 c0
    have c1_2 := cell_later bb2 c1
    have c2_2 := cell_later bb2 c2
    have c3_2 := cell_later bb2 c3
    clear c0_1 c1_1 c2_1 c3_1
    go_wp2
    go_ret
    exact ⟨by rw [HR.out]; rfl, below_on hb0 bb2⟩
  | true =>
  cases x2 with
  | false =>
    go_enter Try.func12, Try.ntmps12
    go_wp2_with fail
    rw [HW.out]
    refine (N0.out _ bb0).mono ?_
    rintro e w1 ⟨rfl, b1⟩
    have bb1 := below_on bb0 b1
    have c0_1 := cell_later bb1 c0
    have c1_1 := cell_later bb1 c1
    have c2_1 := cell_later bb1 c2
    have c3_1 := cell_later bb1 c3
    clear p0
    go_wp2_with fail
    refine (N1.out _ bb1).mono ?_
    rintro e w2 ⟨rfl, b2⟩
    have bb2 := below_on bb1 b2
    have c0_2 := cell_later bb2 c0
    have c1_2 := cell_later bb2 c1
    have c2_2 := cell_later bb2 c2
    have c3_2 := cell_later bb2 c3
    clear c0_1 c1_1 c2_1 c3_1
    go_wp2_with fail
    refine (N2.out _ bb2).mono ?_
    rintro e w3 ⟨rfl, b3⟩
    have bb3 := below_on bb2 b3
    have c0_3 := cell_later bb3 c0
    have c1_3 := cell_later bb3 c1
    have c2_3 := cell_later bb3 c2
    have c3_3 := cell_later bb3 c3
    clear c0_2 c1_2 c2_2 c3_2
    go_wp2
    go_ret
    exact ⟨by rw [HR.out]; rfl, below_on hb0 bb3⟩
  | true =>
  cases x3 with
  | false =>
    go_enter Try.func12, Try.ntmps12
    go_wp2_with fail
    rw [HW.out]
    refine (N0.out _ bb0).mono ?_
    rintro e w1 ⟨rfl, b1⟩
    have bb1 := below_on bb0 b1
    have c0_1 := cell_later bb1 c0
    have c1_1 := cell_later bb1 c1
    have c2_1 := cell_later bb1 c2
    have c3_1 := cell_later bb1 c3
    clear p0
    go_wp2_with fail
    refine (N1.out _ bb1).mono ?_
    rintro e w2 ⟨rfl, b2⟩
    have bb2 := below_on bb1 b2
    have c0_2 := cell_later bb2 c0
    have c1_2 := cell_later bb2 c1
    have c2_2 := cell_later bb2 c2
    have c3_2 := cell_later bb2 c3
    clear c0_1 c1_1 c2_1 c3_1
    go_wp2_with fail
    refine (N2.out _ bb2).mono ?_
    rintro e w3 ⟨rfl, b3⟩
    have bb3 := below_on bb2 b3
    have c0_3 := cell_later bb3 c0
    have c1_3 := cell_later bb3 c1
    have c2_3 := cell_later bb3 c2
    have c3_3 := cell_later bb3 c3
    clear c0_2 c1_2 c2_2 c3_2
    go_wp2_with fail
    refine (N3.out _ bb3).mono ?_
    rintro e w4 ⟨rfl, b4⟩
    have bb4 := below_on bb3 b4
    have c0_4 := cell_later bb4 c0
    have c1_4 := cell_later bb4 c1
    have c2_4 := cell_later bb4 c2
    have c3_4 := cell_later bb4 c3
    clear c0_3 c1_3 c2_3 c3_3
    go_wp2
    go_ret
    exact ⟨by rw [HR.out]; rfl, below_on hb0 bb4⟩
  | true =>
  go_enter Try.func12, Try.ntmps12
  go_wp2_with fail
  rw [HW.out]
  refine (N0.out _ bb0).mono ?_
  rintro e w1 ⟨rfl, b1⟩
  have bb1 := below_on bb0 b1
  have c0_1 := cell_later bb1 c0
  have c1_1 := cell_later bb1 c1
  have c2_1 := cell_later bb1 c2
  have c3_1 := cell_later bb1 c3
  clear p0
  go_wp2_with fail
  refine (N1.out _ bb1).mono ?_
  rintro e w2 ⟨rfl, b2⟩
  have bb2 := below_on bb1 b2
  have c0_2 := cell_later bb2 c0
  have c1_2 := cell_later bb2 c1
  have c2_2 := cell_later bb2 c2
  have c3_2 := cell_later bb2 c3
  clear c0_1 c1_1 c2_1 c3_1
  go_wp2_with fail
  refine (N2.out _ bb2).mono ?_
  rintro e w3 ⟨rfl, b3⟩
  have bb3 := below_on bb2 b3
  have c0_3 := cell_later bb3 c0
  have c1_3 := cell_later bb3 c1
  have c2_3 := cell_later bb3 c2
  have c3_3 := cell_later bb3 c3
  clear c0_2 c1_2 c2_2 c3_2
  go_wp2_with fail
  refine (N3.out _ bb3).mono ?_
  rintro e w4 ⟨rfl, b4⟩
  have bb4 := below_on bb3 b4
  have c0_4 := cell_later bb4 c0
  have c1_4 := cell_later bb4 c1
  have c2_4 := cell_later bb4 c2
  have c3_4 := cell_later bb4 c3
  clear c0_3 c1_3 c2_3 c3_3
  go_wp2_with fail
  refine (N4.out _ bb4).mono ?_
  rintro e w5 ⟨rfl, b5⟩
  have bb5 := below_on bb4 b5
  have c0_5 := cell_later bb5 c0
  have c1_5 := cell_later bb5 c1
  have c2_5 := cell_later bb5 c2
  have c3_5 := cell_later bb5 c3
  clear c0_4 c1_4 c2_4 c3_4
  go_wp2
  go_ret
  exact ⟨by rw [HR.out]; rfl, below_on hb0 bb5⟩

set_option maxHeartbeats 800000 in
theorem dnfits_any (S E B V A : Option Addr) (cs ce cb cv c : Nat) (n : Note) (l : List (Int × Int)) (w : World) (h1 : NoteAt w S E B V cs ce cb cv n) (h2 : OneL w A c l) :
    Calls Try.prog 14 #[.agg (noteCells S E B V cs ce cb cv n), .slice A l.length c] w (Says (.bool (Ve.cov (Ve.cnt l) (Ve.cnt n.s))) w) := by
  obtain ⟨W, hW⟩ : ∃ W, w.alloc (.cells (noteCells S E B V cs ce cb cv n) 26) = W := ⟨_, rfl⟩
  have hb0 : Below w.heap.size w W := by rw [← hW]; exact below_new (Below.refl _ _) _
  have hB0 : Blk W w.heap.size 26 (noteCells S E B V cs ce cb cv n) := by rw [← hW]; exact Blk.new w _ _
  obtain ⟨c0, c1, c2, c3⟩ := note_cells hB0
  have hO := h2.later hb0
  have hS := h1.hs.later hb0
  have N0 := Lib.hid (covers_any A S c cs l n.s W hO hS)
  have p0 := c0
  rw [← hW] at p0
  have HW := Lib.hid hW
  clear hW hB0 h1 h2 hO hS
  go_enter Try.func14, Try.ntmps14
  go_wp2_with fail
  rw [HW.out]
  refine N0.out.mono ?_
  rintro e w1 ⟨rfl, b1⟩
  go_wp2
  go_ret
  exact ⟨rfl, below_on hb0 b1⟩

set_option maxHeartbeats 800000 in
theorem dnnews_any (S E B V A : Option Addr) (cs ce cb cv c : Nat) (n : Note) (l : List (Int × Int)) (w : World) (h1 : NoteAt w S E B V cs ce cb cv n) (h2 : OneL w A c l) :
    Calls Try.prog 16 #[.agg (noteCells S E B V cs ce cb cv n), .slice A l.length c] w (Says (.bool (!Ve.cov (Ve.cnt l) (Ve.cnt n.e))) w) := by
  obtain ⟨W, hW⟩ : ∃ W, w.alloc (.cells (noteCells S E B V cs ce cb cv n) 26) = W := ⟨_, rfl⟩
  have hb0 : Below w.heap.size w W := by rw [← hW]; exact below_new (Below.refl _ _) _
  have hB0 : Blk W w.heap.size 26 (noteCells S E B V cs ce cb cv n) := by rw [← hW]; exact Blk.new w _ _
  obtain ⟨c0, c1, c2, c3⟩ := note_cells hB0
  have hO := h2.later hb0
  have hS := h1.he.later hb0
  have N0 := Lib.hid (covers_any A E c ce l n.e W hO hS)
  have p0 := c1
  rw [← hW] at p0
  have HW := Lib.hid hW
  clear hW hB0 h1 h2 hO hS
  go_enter Try.func16, Try.ntmps16
  go_wp2_with fail
  rw [HW.out]
  refine N0.out.mono ?_
  rintro e w1 ⟨rfl, b1⟩
  go_wp2
  go_ret
  exact ⟨rfl, below_on hb0 b1⟩

end Go.Proofs.Ytoaclofobfaflaa
namespace Go.Proofs.Ytoaclofobfaflaa
open Go.RowKit

/-- A function value that says of each element whether p holds of it, in every world that is as wb was below. -/
def PredW (wb : World) (fn : Nat) (lb : Array Value) (p : Wr → Bool) : Prop := ∀ (W : World) (x : Wr), Below wb.heap.size wb W → Calls Try.prog fn (#[.agg #[.int .i64 x.1, .int .i64 x.2.1, .int .i64 x.2.2.1, .bool x.2.2.2]] ++ lb) W fun e w' => e = .returned (.bool (p x)) ∧ Below W.heap.size W w'
theorem PredW.later {wb w' : World} {fn : Nat} {lb : Array Value} {p : Wr → Bool} (h : PredW wb fn lb p) (hb : Below wb.heap.size wb w') : PredW w' fn lb p := fun W x hW => h W x (below_on hb hW)

set_option maxHeartbeats 1600000 in
theorem indexFuncW_any (p : Wr → Bool) (fn : Nat) (lb : Array Value) (eg : ∀ args w, (callFunc fn args).run Try.prog w = .ok (.enter fn args) w) (wb : World) (b off cap : Nat) (D : List Wr) (w : World)
    (hp : PredW wb fn lb p) (hB : Below wb.heap.size wb w) (hlt : b < w.heap.size) (hL : Lay w b off (Nt.wrCells D)) (hmax : D.length ≤ 9223372036854775807) (r : Int)
    (hr : (r = -1 ∧ ∀ t (h : t < D.length), p D[t] = false) ∨ ∃ t, ∃ h : t < D.length, r = (t : Int) ∧ p D[t] = true ∧ ∀ u (h : u < t), p (D[u]'(by omega)) = false) :
    Calls Try.prog 95 #[.slice (some ⟨b, off, none⟩) D.length cap, .func (.func fn) #[] lb] w fun e w' => e = .returned (.int .i64 r) ∧ Below w.heap.size w w' := by
  have HL := Lib.hid hL
  have HP := Lib.hid hp
  have HR := Lib.hid hr
  have HB := Lib.hid hB
  clear hL hp hr hB
  go_enter Try.func95, Try.ntmps95
  go_wp2_with fail
  go_loopw [5, 8] (fun _ s8 wr => ∃ k : Nat, k ≤ D.length ∧ s8 = .int .i64 (k : Int) ∧ (∀ u, u < k → ∀ h : u < D.length, p D[u] = false) ∧ Below w.heap.size w wr) (fun _ s8 _ => D.length - (intOf s8).toNat)
  case atStart => exact ⟨0, Nat.zero_le _, rfl, (fun u hu => by omega), Below.refl _ _⟩
  case round =>
    obtain ⟨k, hk, rfl, hall, hbw⟩ := hrel
    have HALL := Lib.hid hall
    clear hall
    by_cases hlt2 : k < D.length
    · have hi0 : (0 : Int) ≤ (k : Int) := by omega
      have hi1 : (k : Int) < (D.length : Int) := by omega
      obtain ⟨x, hx⟩ : ∃ x, D[k] = x := ⟨_, rfl⟩
      have hx2 : D[k]? = some x := by rw [List.getElem?_eq_getElem hlt2, hx]
      obtain ⟨g0, g1, g2, g3⟩ := wr_get D x k hx2
      have L2 := HL.out.later hlt hbw
      have e0 := (L2 _ _ g0).1
      have e1 := (L2 _ _ g1).1
      have e2 := (L2 _ _ g2).1
      have e3 := (L2 _ _ g3).1
      rw [← Nat.add_assoc] at e1
      rw [← Nat.add_assoc] at e2
      rw [← Nat.add_assoc] at e3
      have cl := HP.out wr x (below_on HB.out hbw)
      have hpx : p D[k] = p x := by rw [hx]
      obtain ⟨px, hpxx⟩ : ∃ px, p x = px := ⟨_, rfl⟩
      rw [hpxx] at cl hpx
      obtain ⟨x1, x2, x3, x4⟩ := x
      have CL := Lib.hid cl
      have HX := Lib.hid hpx
      clear cl hpx hx hx2 hpxx L2 g0 g1 g2 g3
      cases px with
      | true =>
        go_wp2_with (go_at_fn fn; refine CL.out.mono ?_; rintro e w1 ⟨rfl, b1⟩)
        go_ret
        have hrk : r = (k : Int) := by
          rcases HR.out with ⟨_, h2⟩ | ⟨t, ht, h1, h2, h3⟩
          · have := h2 k hlt2; rw [HX.out] at this; cases this
          · rw [h1]
            rcases Nat.lt_trichotomy t k with h4 | h4 | h4
            · have := HALL.out t h4 ht; rw [h2] at this; cases this
            · rw [h4]
            · have := h3 k h4; rw [HX.out] at this; cases this
        exact ⟨by rw [hrk]; rfl, below_on hbw b1⟩
      | false =>
        go_wp2_with (go_at_fn fn; refine CL.out.mono ?_; rintro e w1 ⟨rfl, b1⟩)
        go_roundw
        case rel => exact ⟨k + 1, by omega, by go_num, (fun u hu h => by
          by_cases e : u = k
          · subst e; exact HX.out
          · exact HALL.out u (by omega) h), below_on hbw b1⟩
        case measure => simp [intOf]; omega
    · have hkl : k = D.length := by omega
      subst hkl
      go_wp2
      go_ret
      have hrk : r = -1 := by
        rcases HR.out with ⟨h1, _⟩ | ⟨t, ht, h1, h2, h3⟩
        · exact h1
        · have := HALL.out t ht ht; rw [h2] at this; cases this
      exact ⟨by rw [hrk]; rfl, hbw⟩

theorem zeroCellsW (m : Nat) : (Builtin.zeroCells (Value.cells (.agg #[.int .i64 0, .int .i64 0, .int .i64 0, .bool false])) m).toList.length = m * 4 ∧ ∀ u ∈ (Builtin.zeroCells (Value.cells (.agg #[.int .i64 0, .int .i64 0, .int .i64 0, .bool false])) m).toList, u.oneCell' = true := by
  refine ⟨by rw [Array.length_toList, size_zeroCells]; rfl, fun u hu => ?_⟩
  unfold Builtin.zeroCells at hu
  simp [Value.cells] at hu
  obtain ⟨a, _, rfl⟩ := hu
  have h4 : a % 4 < 4 := Nat.mod_lt _ (by omega)
  rcases (show a % 4 = 0 ∨ a % 4 = 1 ∨ a % 4 = 2 ∨ a % 4 = 3 from by omega) with h | h | h | h <;> simp [h, Value.oneCell']

set_option maxRecDepth 100000 in
set_option maxHeartbeats 6400000 in
/-- DeleteFunc: the kept ones, in their order, at the head of the same memory. -/
theorem deleteFuncW_any (p : Wr → Bool) (fn : Nat) (lb : Array Value) (eg : ∀ args w, (callFunc fn args).run Try.prog w = .ok (.enter fn args) w) (wb : World) (b off cap : Nat) (D : List Wr) (w : World)
    (hp : PredW wb fn lb p) (hB : Below wb.heap.size wb w) (hlt : b < w.heap.size) (hbb : wb.heap.size ≤ b) (hL : Lay w b off (Nt.wrCells D)) (hcap : D.length ≤ cap) (hmax : cap ≤ 9223372036854775807) :
    Calls Try.prog 78 #[.slice (some ⟨b, off, none⟩) D.length cap, .func (.func fn) #[] lb] w fun e w' => e = .returned (.slice (some ⟨b, off, none⟩) (D.filter fun x => !p x).length cap) ∧ Lay w' b off (Nt.wrCells (D.filter fun x => !p x)) ∧ Below wb.heap.size wb w' := by
  have hfind : (∀ t (h : t < D.length), p D[t] = false) ∨ ∃ t, ∃ h : t < D.length, p D[t] = true ∧ ∀ u (h : u < t), p (D[u]'(by omega)) = false := by
    cases hf : D.findIdx? p with
    | none =>
      rw [List.findIdx?_eq_none_iff] at hf
      exact .inl fun t h => by simpa using hf D[t] (List.getElem_mem h)
    | some t =>
      rw [List.findIdx?_eq_some_iff_getElem] at hf
      obtain ⟨h1, h2, h3⟩ := hf
      exact .inr ⟨t, h1, h2, fun u hu => by simpa using h3 u hu⟩
  rcases hfind with hall | ⟨t0, ht0, hyes, hno⟩
  · have hfil : (D.filter fun x => !p x) = D := List.filter_eq_self.2 fun x hx => by
      obtain ⟨t, ht, rfl⟩ := List.mem_iff_getElem.1 hx
      rw [hall t ht]; rfl
    rw [hfil]
    have N := Lib.hid (indexFuncW_any p fn lb eg wb b off cap D w hp hB hlt hL (by omega) (-1) (.inl ⟨rfl, hall⟩))
    have HL := Lib.hid hL
    clear hL hp hall hfil
    go_enter Try.func78, Try.ntmps78
    go_wp2_with fail
    refine N.out.mono ?_
    rintro e w1 ⟨rfl, b1⟩
    go_wp2
    go_ret
    exact ⟨rfl, HL.out.later hlt b1, below_on hB b1⟩
  · have N := Lib.hid (indexFuncW_any p fn lb eg wb b off cap D w hp hB hlt hL (by omega) (t0 : Int) (.inr ⟨t0, ht0, rfl, hyes, hno⟩))
    have HL := Lib.hid hL
    have HP := Lib.hid hp
    have HS := Lib.hid (KeptL.start (q := fun x => !p x) ht0 (fun u hu => by show (!p D[u]) = true; rw [hno u hu]; rfl) (by show (!p D[t0]) = false; rw [hyes]; rfl))
    have HBW := Lib.hid hB
    clear hL hp hyes hno hB
    have ht1 : ((t0 : Int) == -1) = false := beq_eq_false_iff_ne.2 (by omega)
    go_enter Try.func78, Try.ntmps78
    go_wp2_with fail
    refine N.out.mono ?_
    rintro e w1 ⟨rfl, b1⟩
    go_wp2_with fail
    go_loopw [5, 6, 7] (fun s5 s6 _ wr => ∃ (i j : Nat) (Dk : List Wr), s5 = .int .i64 (i : Int) ∧ s6 = .int .i64 (j : Int) ∧ KeptL (fun x => !p x) D j i Dk ∧ Lay wr b off (Nt.wrCells Dk) ∧ b < wr.heap.size ∧ Below wb.heap.size wb wr) (fun _ s6 _ _ => D.length - (intOf s6).toNat)
    case atStart => exact ⟨t0, t0 + 1, D, rfl, by go_num, HS.out, HL.out.later hlt b1, Nat.lt_of_lt_of_le hlt b1.size, below_on HBW.out b1⟩
    case round =>
      obtain ⟨i, j, Dk, rfl, rfl, hK, hLk, hlk, hbk⟩ := hrel
      have hij := hK.lt
      have hjD := hK.le
      have hlD := hK.len
      have KK := Lib.hid hK
      have LK := Lib.hid hLk
      have HBK := Lib.hid hbk
      clear hK hLk hbk
      by_cases hlt2 : j < D.length
      · have hi0 : (0 : Int) ≤ (j : Int) := by omega
        have hi1 : (j : Int) < (D.length : Int) := by omega
        have hi2 : (0 : Int) ≤ (i : Int) := by omega
        have hi3 : (i : Int) < (D.length : Int) := by omega
        obtain ⟨x, hx⟩ : ∃ x, D[j] = x := ⟨_, rfl⟩
        have hx2 : Dk[j]? = some x := by rw [KK.out.get hlt2, hx]
        obtain ⟨g0, g1, g2, g3⟩ := wr_get Dk x j hx2
        have e0 := (LK.out _ _ g0).1
        have e1 := (LK.out _ _ g1).1
        have e2 := (LK.out _ _ g2).1
        have e3 := (LK.out _ _ g3).1
        rw [← Nat.add_assoc] at e1
        rw [← Nat.add_assoc] at e2
        rw [← Nat.add_assoc] at e3
        have hkp := fun h => KK.out.keep (j := j) hlt2 h
        have hsk := fun h => KK.out.skip (j := j) hlt2 h
        rw [hx] at hkp hsk
        obtain ⟨px, hpxx⟩ : ∃ px, p x = px := ⟨_, rfl⟩
        obtain ⟨W1, hW1⟩ : ∃ W1, wr.alloc (.cells #[.int .i64 x.1, .int .i64 x.2.1, .int .i64 x.2.2.1, .bool x.2.2.2] 35) = W1 := ⟨_, rfl⟩
        have hbn : Below wr.heap.size wr W1 := by rw [← hW1]; exact below_new (Below.refl _ _) _
        have hB1 : Blk W1 wr.heap.size 35 #[.int .i64 x.1, .int .i64 x.2.1, .int .i64 x.2.2.1, .bool x.2.2.2] := by rw [← hW1]; exact Blk.new wr _ _
        have cl := HP.out W1 x (below_on HBK.out hbn)
        have hset := wr_set Dk x i (by omega)
        rw [hpxx] at cl
        have hkp2 : px = false → KeptL (fun x => !p x) D (j + 1) (i + 1) (Dk.set i x) := fun h => hkp (by show (!p x) = true; rw [hpxx, h]; rfl)
        have hsk2 : px = true → KeptL (fun x => !p x) D (j + 1) i Dk := fun h => hsk (by show (!p x) = false; rw [hpxx, h]; rfl)
        obtain ⟨old, hold⟩ : ∃ old, Dk[i]? = some old := ⟨Dk[i], List.getElem?_eq_getElem (by omega)⟩
        obtain ⟨og0, og1, og2, og3⟩ := wr_get Dk old i hold
        have LK1 := LK.out.later hlk hbn
        have hlk1 : b < W1.heap.size := Nat.lt_of_lt_of_le hlk hbn.size
        have CL := Lib.hid cl
        have HB1 := Lib.hid hB1
        have HLK1 := Lib.hid LK1
        have HW1 := Lib.hid hW1
        have HK2 := Lib.hid hkp2
        have HS2 := Lib.hid hsk2
        have HSET := Lib.hid hset
        have OG0 := Lib.hid og0
        have OG1 := Lib.hid og1
        have OG2 := Lib.hid og2
        have OG3 := Lib.hid og3
        clear cl hB1 LK1 hW1 hkp2 hsk2 hset hkp hsk hpxx hx hx2 hold g0 g1 g2 g3 og0 og1 og2 og3
        obtain ⟨x1, x2, x3, x4⟩ := x
        have q := HB1.out
        have q0 := q.cell (i := 0) rfl
        have q1 := q.cell (i := 1) rfl
        have q2 := q.cell (i := 2) rfl
        have q3 := q.cell (i := 3) rfl
        clear q
        cases px with
        | true =>
          go_wp2_with fail
          rw [HW1.out]
          go_wp2_with (go_at_fn fn; refine CL.out.mono ?_; rintro e w2 ⟨rfl, b2⟩)
          go_roundw
          case rel => exact ⟨i, j + 1, Dk, rfl, by go_num, HS2.out (by first | rfl | trivial), HLK1.out.later hlk1 b2, Nat.lt_of_lt_of_le hlk1 b2.size, below_on HBK.out (below_on hbn b2)⟩
          case measure => simp [intOf]; omega
        | false =>
          go_wp2_with fail
          rw [HW1.out]
          go_wp2_with fail
          refine CL.out.mono ?_
          rintro e w2 ⟨rfl, b2⟩
          have L2 := HLK1.out.later hlk1 b2
          have r0 := cell_later b2 q0
          have r1 := cell_later b2 q1
          have r2 := cell_later b2 q2
          have r3 := cell_later b2 q3
          have u0 := (L2 _ _ OG0.out).1
          have f0 := (L2 _ _ OG0.out).2
          have u1 := (L2 _ _ OG1.out).1
          have f1 := (L2 _ _ OG1.out).2
          rw [← Nat.add_assoc] at u1 f1
          have u2 := (L2 _ _ OG2.out).1
          have f2 := (L2 _ _ OG2.out).2
          rw [← Nat.add_assoc] at u2 f2
          have u3 := (L2 _ _ OG3.out).1
          have f3 := (L2 _ _ OG3.out).2
          rw [← Nat.add_assoc] at u3 f3
          have HL2 := Lib.hid L2
          clear L2 q0 q1 q2 q3
          go_wp2_with fail
          go_roundw
          case rel =>
            have h := ((((HL2.out.put (i * 4) (.int .i64 (x1, x2, x3, x4).1)).put (i * 4 + 1) (.int .i64 (x1, x2, x3, x4).2.1)).put (i * 4 + 2) (.int .i64 (x1, x2, x3, x4).2.2.1)).put (i * 4 + 3) (.bool (x1, x2, x3, x4).2.2.2))
            rw [HSET.out] at h
            exact ⟨i + 1, j + 1, _, by go_num, by go_num, HK2.out (by first | rfl | trivial), h, by simpa using Nat.lt_of_lt_of_le hlk1 b2.size, ((((below_on HBK.out (below_on hbn b2)).setCell (p := ⟨b, _, none⟩) hbb _).setCell (p := ⟨b, _, none⟩) hbb _).setCell (p := ⟨b, _, none⟩) hbb _).setCell (p := ⟨b, _, none⟩) hbb _⟩
          case measure => simp [intOf]; omega
      · have hkl : j = D.length := by omega
        subst hkl
        have hin : i < D.length := by omega
        have hlen : (Nt.wrCells Dk).length = D.length * 4 := by rw [Nt.wrCells_length, hlD]
        have hzl := zeroCellsW (D.length - i)
        have hcl : ∀ ty, (Builtin.clear_ #[24] ty #[.slice (some ⟨b, off + i * 4, none⟩) (D.length - i) (cap - i)]).run Try.prog wr = .ok (.tuple #[]) (wr.setCells b (off + i * 4) (Builtin.zeroCells (Value.cells (.agg #[.int .i64 0, .int .i64 0, .int .i64 0, .bool false])) (D.length - i)).toList) := fun ty =>
          run_clear_cells wr 24 35 ty (.agg #[.int .i64 0, .int .i64 0, .int .i64 0, .bool false]) Try.underlying24 Try.zeroValue35 b (off + i * 4) (D.length - i) (cap - i) (by omega) hzl.2
            (fun t ht => by rw [hzl.1] at ht; have hx : i * 4 + t < (Nt.wrCells Dk).length := Nat.lt_of_lt_of_eq (by omega) hlen.symm; rw [Nat.add_assoc, (LK.out _ _ (List.getElem?_eq_getElem hx)).1]; rfl)
            (fun t ht => by rw [hzl.1] at ht; have hx : i * 4 + t < (Nt.wrCells Dk).length := Nat.lt_of_lt_of_eq (by omega) hlen.symm; rw [Nat.add_assoc]; exact (LK.out _ _ (List.getElem?_eq_getElem hx)).2)
        have hdone := KK.out.done
        have HD := Lib.hid hdone
        clear hdone hlen hzl
        have hi2 : (0 : Int) ≤ (i : Int) := by omega
        have hi3 : (i : Int) ≤ (D.length : Int) := by omega
        have hi4 : (D.length : Int) ≤ (cap : Int) := by omega
        go_wp2
        go_ret
        refine ⟨by rw [← HD.out.1]; rfl, ?_, below_cells hbb _ _ _ HBK.out⟩
        refine Lay.behind ?_ (i * 4) (by rw [Nt.wrCells_length, ← HD.out.1]; exact Nat.le_refl _) _
        rw [← HD.out.2]
        exact LK.out.sub (wr_take Dk i)

set_option maxHeartbeats 800000 in
theorem indexFuncW_nil (p : Fn) (ca lb : Array Value) (w : World) : Calls Try.prog 95 #[.slice none 0 0, .func p ca lb] w fun e w' => e = .returned (.int .i64 (-1)) ∧ Below w.heap.size w w' := by
  go_enter Try.func95, Try.ntmps95
  go_wp2_with fail
  go_loopw [8] (fun s8 wr => s8 = .int .i64 0 ∧ Below w.heap.size w wr) (fun _ _ => 0)
  case atStart => exact ⟨rfl, Below.refl _ _⟩
  case round =>
    obtain ⟨rfl, hb⟩ := hrel
    go_wp2
    go_ret
    exact ⟨rfl, hb⟩
set_option maxHeartbeats 800000 in
theorem deleteFuncW_nil (p : Fn) (ca lb : Array Value) (w : World) : Calls Try.prog 78 #[.slice none 0 0, .func p ca lb] w fun e w' => e = .returned (.slice none 0 0) ∧ Below w.heap.size w w' := by
  have N := Lib.hid (indexFuncW_nil p ca lb w)
  go_enter Try.func78, Try.ntmps78
  go_wp2_with fail
  refine N.out.mono ?_
  rintro e w1 ⟨rfl, b1⟩
  go_wp2
  go_ret
  exact ⟨rfl, b1⟩


end Go.Proofs.Ytoaclofobfaflaa
