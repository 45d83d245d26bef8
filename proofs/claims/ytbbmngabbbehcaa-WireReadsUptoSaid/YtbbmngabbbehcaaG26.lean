/-
  What telltaleref04's Of answers.
  What note's isObject, formedWrites, Formed, Fits and News answer.
  What wire's isObject, isNode, formedBody, hasNoFields and formedNotes answer.
  What telltaleref06's Formed answers of any message.
-/
import Derived.Test.YtbbmngabbbehcaaG25
import Derived.Test.YtbbmngabbbehcaaG24
import Derived.Test.YtbbmngabbbehcaaG19
import Derived.Test.YtbbmngabbbehcaaG14
import Derived.Test.YtbbmngabbbehcaaG20
import Derived.Test.YtbbmngabbbehcaaG09
import Derived.Deep.DeepCutAuto
namespace Go.Proofs.Ytbbmngabbbehcaa
open Go.RowKit

/-- The empty note. -/
def noNote : Note := ⟨[], [], [], []⟩
theorem noNote_at (w : World) : NoteAt w none none none none 0 0 0 0 noNote := ⟨OneL.nil, OneL.nil, OneL.nil, OneW.nil⟩
theorem one_write {w : World} {g : Nat} {t : TypeId} {y : Wr} (hB : Blk w g t (Nt.wrArr y)) : OneW w (some ⟨g, 0, none⟩) 1 [y] :=
  ⟨Nat.le_refl _, (by unfold maxLen; omega), (fun h => by cases h), fun _ => ⟨g, 0, rfl, fun j u hu => by
    rw [Nat.zero_add]
    exact hB.cell (by simpa [Nt.wrCells, Nt.wrCell, Nt.wrArr] using hu)⟩⟩
/-- The note of one write, or an error's number. -/
def ofN (l : List (Int × Int)) (y : Wr) : Note × Int :=
  if (Ve.fmd l = true ∧ St.rgt y.1 y.2.1 = true) ∧ (0 ≤ y.2.2.1 ∧ y.2.2.1 ≤ 255) ∧ hasOf l y.1 y.2.1 = false then (⟨l, Ve.joinL [l, [(y.1, y.2.1)]], [], [y]⟩, 0) else (noNote, 1)

/-- Four slices of a note are stored, one after the other. -/
theorem nt_puts {w : World} {g : Nat} {t : TypeId} {y0 y1 y2 y3 : Value} (hB : Blk w g t #[y0, y1, y2, y3]) (S E B V : Option Addr) (cs ce cb cv : Nat) (n : Note) : Blk ((((w.setCell ⟨g, 0, none⟩ (.slice S n.s.length cs)).setCell ⟨g, 1, none⟩ (.slice E n.e.length ce)).setCell ⟨g, 2, none⟩ (.slice B n.b.length cb)).setCell ⟨g, 3, none⟩ (.slice V n.ws.length cv)) g t (noteCells S E B V cs ce cb cv n) := (((hB.put 0 _).put 1 _).put 2 _).put 3 _
theorem nt_cells {w : World} {g : Nat} {t : TypeId} {y0 y1 y2 y3 : Value} (h : Blk w g t #[y0, y1, y2, y3]) : (w.cell? ⟨g, 0, none⟩ = some y0 ∧ w.cell? ⟨g, 1, none⟩ = some y1 ∧ w.cell? ⟨g, 2, none⟩ = some y2 ∧ w.cell? ⟨g, 3, none⟩ = some y3) ∧
    (w.frozen? ⟨g, 0, none⟩ = false ∧ w.frozen? ⟨g, 1, none⟩ = false ∧ w.frozen? ⟨g, 2, none⟩ = false ∧ w.frozen? ⟨g, 3, none⟩ = false) := ⟨⟨h.cell rfl, h.cell rfl, h.cell rfl, h.cell rfl⟩, h.free 0, h.free 1, h.free 2, h.free 3⟩

end Go.Proofs.Ytbbmngabbbehcaa
namespace Go.Proofs.Ytbbmngabbbehcaa
open Go.RowKit Fb

set_option maxHeartbeats 800000 in
theorem nisObject_any (o : Int) (w : World) : Calls Try.prog 119 #[.int .i64 o] w (Says (.bool (decide (0 ≤ o ∧ o ≤ 255))) w) := by
  by_cases h0 : 0 ≤ o
  · have d0 : decide (0 ≤ o) = true := decide_eq_true h0
    by_cases h1 : o < 256
    · have d1 : decide (o < 256) = true := decide_eq_true h1
      rw [show decide (0 ≤ o ∧ o ≤ 255) = true from decide_eq_true (by omega)]
      go_enter Try.func119, Try.ntmps119
      go_wp2
      go_ret
      exact ⟨rfl, Below.refl _ _⟩
    · have d1 : decide (o < 256) = false := decide_eq_false h1
      rw [show decide (0 ≤ o ∧ o ≤ 255) = false from decide_eq_false (by omega)]
      go_enter Try.func119, Try.ntmps119
      go_wp2
      go_ret
      exact ⟨rfl, Below.refl _ _⟩
  · have d0 : decide (0 ≤ o) = false := decide_eq_false h0
    rw [show decide (0 ≤ o ∧ o ≤ 255) = false from decide_eq_false (by omega)]
    go_enter Try.func119, Try.ntmps119
    go_wp2
    go_ret
    exact ⟨rfl, Below.refl _ _⟩

namespace Nt
/-- The object of the last of the first k writes; -1 if there is none. -/
def lastO (l : List Wr) : Nat → Int
  | 0 => -1
  | k + 1 => obj l k
end Nt

set_option maxRecDepth 100000 in
set_option maxHeartbeats 6400000 in
theorem nformedWrites_any (S E B V : Option Addr) (cs ce cb cv : Nat) (n : Note) (w : World) (h1 : NoteAt w S E B V cs ce cb cv n) :
    Calls Try.prog 100 #[.agg (noteCells S E B V cs ce cb cv n)] w (Says (.bool (Nt.wsOk n)) w) := by
  obtain ⟨W, hW⟩ : ∃ W, w.alloc (.cells (noteCells S E B V cs ce cb cv n) 51) = W := ⟨_, rfl⟩
  have hb0 : Below w.heap.size w W := by rw [← hW]; exact below_new (Below.refl _ _) _
  have hB0 : Blk W w.heap.size 51 (noteCells S E B V cs ce cb cv n) := by rw [← hW]; exact Blk.new w _ _
  obtain ⟨c0, c1, c2, c3⟩ := note_cells hB0
  have p3 := c3
  rw [← hW] at p3
  have HN := Lib.hid (h1.later hb0)
  have NO := Lib.hid (fun wx o => nisObject_any o wx)
  have NH := Lib.hid (fun wx (hb : Below W.heap.size W wx) o => sphas_any B cb n.b o wx (HN.out.hb.later hb))
  have NE := Lib.hid (fun wx (hb : Below W.heap.size W wx) x y => has_any E ce n.e x y wx (HN.out.he.later hb))
  have HW := Lib.hid hW
  clear hW hB0 h1
  have bb0 := Below.refl W.heap.size W
  have hlenw := HN.out.hv.len
  go_enter Try.func100, Try.ntmps100
  go_wp2_with fail
  rw [HW.out]
  go_loopw [3, 9] (fun s3 s9 wr => ∃ k : Nat, k ≤ n.ws.length ∧ s9 = .int .i64 (k : Int) ∧ s3 = .int .i64 (Nt.lastO n.ws k) ∧ Nt.wsTo n k ∧ Below W.heap.size W wr) (fun _ s9 _ => n.ws.length - (intOf s9).toNat)
  case atStart => exact ⟨0, Nat.zero_le _, rfl, rfl, fun j hj => by omega, bb0⟩
  case round =>
    obtain ⟨k, hk, rfl, rfl, hall, hbw⟩ := hrel
    have HALL := Lib.hid hall
    have g1 := cell_later hbw c1
    have g2 := cell_later hbw c2
    clear hall p3
    by_cases hlt : k < n.ws.length
    · have hne : n.ws ≠ [] := fun e => by rw [e] at hlt; simp at hlt
      obtain ⟨b, off, hA, hcA⟩ := (HN.out.hv.later hbw).at hne
      subst hA
      obtain ⟨e0, e1, e2, e3⟩ := hcA k hlt
      have hi0 : (0 : Int) ≤ (k : Int) := by omega
      have hi1 : (k : Int) < (n.ws.length : Int) := by omega
      have hno := @Nt.wsOk_no n k hlt
      have hnx : hasOf n.e (n.ws.getD k Nt.zeroW).1 (n.ws.getD k Nt.zeroW).2.1 = true → (0 ≤ Nt.obj n.ws k ∧ Nt.obj n.ws k ≤ 255) → inOf n.b (Nt.obj n.ws k) = false → (0 < k → Nt.obj n.ws (k - 1) < Nt.obj n.ws k) → Nt.wsTo n (k + 1) := fun q1 q2 q3 q4 j hj => by
        by_cases e : j = k
        · subst e; exact ⟨q1, q2, q3, q4⟩
        · exact HALL.out j (by omega)
      have hob : (n.ws.getD k Nt.zeroW).2.2.1 = Nt.obj n.ws k := rfl
      rw [hob] at e2
      obtain ⟨ln, hln⟩ : ∃ ln, Nt.lastO n.ws k = ln := ⟨_, rfl⟩
      have hprev : 0 < k → Nt.obj n.ws (k - 1) = ln := fun h => by
        cases k with
        | zero => omega
        | succ m => rw [← hln]; rfl
      have hz : k = 0 → ln = -1 := fun h => by subst h; rw [← hln]; rfl
      have hnext : Nt.lastO n.ws (k + 1) = Nt.obj n.ws k := rfl
      rw [hln]
      obtain ⟨x, hx⟩ : ∃ x, (n.ws.getD k Nt.zeroW).1 = x := ⟨_, rfl⟩
      obtain ⟨y, hy⟩ : ∃ y, (n.ws.getD k Nt.zeroW).2.1 = y := ⟨_, rfl⟩
      obtain ⟨gn, hgn⟩ : ∃ gn, (n.ws.getD k Nt.zeroW).2.2.2 = gn := ⟨_, rfl⟩
      obtain ⟨o, ho⟩ : ∃ o, Nt.obj n.ws k = o := ⟨_, rfl⟩
      rw [hx] at e0 hno hnx
      rw [hy] at e1 hno hnx
      rw [hgn] at e3
      rw [ho] at e2 hno hnx hnext
      obtain ⟨hs, hhs⟩ : ∃ hs, hasOf n.e x y = hs := ⟨_, rfl⟩
      obtain ⟨ib, hib⟩ : ∃ ib, inOf n.b o = ib := ⟨_, rfl⟩
      obtain ⟨ob, hobb⟩ : ∃ ob, decide (0 ≤ o ∧ o ≤ 255) = ob := ⟨_, rfl⟩
      obtain ⟨W1, hW1⟩ : ∃ W1, wr.alloc (.cells #[.int .i64 x, .int .i64 y, .int .i64 o, .bool gn] 101) = W1 := ⟨_, rfl⟩
      have hbn : Below wr.heap.size wr W1 := by rw [← hW1]; exact below_new (Below.refl _ _) _
      have hB1 : Blk W1 wr.heap.size 101 #[.int .i64 x, .int .i64 y, .int .i64 o, .bool gn] := by rw [← hW1]; exact Blk.new wr _ _
      have hbw1 := below_on hbw hbn
      have q0 := hB1.cell (i := 0) rfl
      have q1 := hB1.cell (i := 1) rfl
      have q2 := hB1.cell (i := 2) rfl
      have m1 := cell_later hbn g1
      have m2 := cell_later hbn g2
      have cH := fun wx (hb : Below W1.heap.size W1 wx) => NE.out wx (below_on hbw1 hb) x y
      have cI := fun wx (hb : Below W1.heap.size W1 wx) => NH.out wx (below_on hbw1 hb) o
      have cO := fun wx => NO.out wx o
      rw [hhs] at cH hno hnx
      rw [hib] at cI hno hnx
      rw [hobb] at cO
      have CH := Lib.hid cH
      have CI := Lib.hid cI
      have CO := Lib.hid cO
      have HNo := Lib.hid hno
      have NX := Lib.hid hnx
      have PV := Lib.hid hprev
      have HZ := Lib.hid hz
      have HNT := Lib.hid hnext
      have HW1 := Lib.hid hW1
      have OB := Lib.hid hobb
      have B1 := Lib.hid hB1
      clear hcA hno hnx hprev cH cI cO hW1 hob hx hy hgn ho hhs hib hln hz hnext hobb hB1
      have hcs : (decide (o ≤ ln) = true ∧ o ≤ ln) ∨ (decide (o ≤ ln) = false ∧ ¬ o ≤ ln ∧ ob = false) ∨ (decide (o ≤ ln) = false ∧ ¬ o ≤ ln ∧ ob = true ∧ ib = true) ∨ (decide (o ≤ ln) = false ∧ ¬ o ≤ ln ∧ ob = true ∧ ib = false ∧ hs = false) ∨ (decide (o ≤ ln) = false ∧ ¬ o ≤ ln ∧ ob = true ∧ ib = false ∧ hs = true) := by
        by_cases h1 : o ≤ ln
        · exact .inl ⟨decide_eq_true h1, h1⟩
        · refine .inr ?_
          have d := decide_eq_false h1
          cases ob
          · exact .inl ⟨d, h1, rfl⟩
          · cases ib
            · cases hs
              · exact .inr (.inr (.inl ⟨d, h1, rfl, rfl, rfl⟩))
              · exact .inr (.inr (.inr ⟨d, h1, rfl, rfl, rfl⟩))
            · exact .inr (.inl ⟨d, h1, rfl, rfl⟩)
      rcases hcs with ⟨d, hd⟩ | ⟨d, hd, rfl⟩ | ⟨d, hd, rfl, rfl⟩ | ⟨d, hd, rfl, rfl, rfl⟩ | ⟨d, hd, rfl, rfl, rfl⟩
      · have HNO := Lib.hid (HNo.out (fun h => by
          have h4 := h.2.2.2
          by_cases hk0 : k = 0
          · have := HZ.out hk0; have := h.2.1.1; omega
          · have := h4 (by omega); rw [PV.out (by omega)] at this; omega))
        go_wp2_with fail
        have ba0 := Below.refl W1.heap.size W1
        skip
        go_ret
        exact ⟨by rw [HNO.out]; rfl, below_on hb0 (by rw [HW1.out]; exact hbw1)⟩
      · have HNO := Lib.hid (HNo.out (fun h => by have := of_decide_eq_false OB.out; exact this h.2.1))
        go_wp2_with fail
        rw [HW1.out]
        have ba0 := Below.refl W1.heap.size W1
        refine (CO.out _).mono ?_
        rintro e w1 ⟨rfl, b1⟩
        have ba1 := below_on ba0 b1
        have q0_1 := cell_later ba1 q0
        have q1_1 := cell_later ba1 q1
        have q2_1 := cell_later ba1 q2
        have m1_1 := cell_later ba1 m1
        have m2_1 := cell_later ba1 m2
        go_wp2
        go_ret
        exact ⟨by rw [HNO.out]; rfl, below_on hb0 (below_on hbw1 ba1)⟩
      · have HNO := Lib.hid (HNo.out (fun h => by have := h.2.2.1; cases this))
        go_wp2_with fail
        rw [HW1.out]
        have ba0 := Below.refl W1.heap.size W1
        refine (CO.out _).mono ?_
        rintro e w1 ⟨rfl, b1⟩
        have ba1 := below_on ba0 b1
        have q0_1 := cell_later ba1 q0
        have q1_1 := cell_later ba1 q1
        have q2_1 := cell_later ba1 q2
        have m1_1 := cell_later ba1 m1
        have m2_1 := cell_later ba1 m2
        go_wp2_with fail
        refine (CI.out _ ba1).mono ?_
        rintro e w2 ⟨rfl, b2⟩
        have ba2 := below_on ba1 b2
        have q0_2 := cell_later ba2 q0
        have q1_2 := cell_later ba2 q1
        have q2_2 := cell_later ba2 q2
        have m1_2 := cell_later ba2 m1
        have m2_2 := cell_later ba2 m2
        go_wp2
        go_ret
        exact ⟨by rw [HNO.out]; rfl, below_on hb0 (below_on hbw1 ba2)⟩
      · have HNO := Lib.hid (HNo.out (fun h => by have := h.1; cases this))
        go_wp2_with fail
        rw [HW1.out]
        have ba0 := Below.refl W1.heap.size W1
        refine (CO.out _).mono ?_
        rintro e w1 ⟨rfl, b1⟩
        have ba1 := below_on ba0 b1
        have q0_1 := cell_later ba1 q0
        have q1_1 := cell_later ba1 q1
        have q2_1 := cell_later ba1 q2
        have m1_1 := cell_later ba1 m1
        have m2_1 := cell_later ba1 m2
        go_wp2_with fail
        refine (CI.out _ ba1).mono ?_
        rintro e w2 ⟨rfl, b2⟩
        have ba2 := below_on ba1 b2
        have q0_2 := cell_later ba2 q0
        have q1_2 := cell_later ba2 q1
        have q2_2 := cell_later ba2 q2
        have m1_2 := cell_later ba2 m1
        have m2_2 := cell_later ba2 m2
        go_wp2_with fail
        refine (CH.out _ ba2).mono ?_
        rintro e w3 ⟨rfl, b3⟩
        have ba3 := below_on ba2 b3
        have q0_3 := cell_later ba3 q0
        have q1_3 := cell_later ba3 q1
        have q2_3 := cell_later ba3 q2
        have m1_3 := cell_later ba3 m1
        have m2_3 := cell_later ba3 m2
        go_wp2
        go_ret
        exact ⟨by rw [HNO.out]; rfl, below_on hb0 (below_on hbw1 ba3)⟩
      · have HT := Lib.hid (NX.out rfl (of_decide_eq_true OB.out) rfl (fun h => by rw [PV.out h]; omega))
        go_wp2_with fail
        rw [HW1.out]
        have ba0 := Below.refl W1.heap.size W1
        refine (CO.out _).mono ?_
        rintro e w1 ⟨rfl, b1⟩
        have ba1 := below_on ba0 b1
        have q0_1 := cell_later ba1 q0
        have q1_1 := cell_later ba1 q1
        have q2_1 := cell_later ba1 q2
        have m1_1 := cell_later ba1 m1
        have m2_1 := cell_later ba1 m2
        go_wp2_with fail
        refine (CI.out _ ba1).mono ?_
        rintro e w2 ⟨rfl, b2⟩
        have ba2 := below_on ba1 b2
        have q0_2 := cell_later ba2 q0
        have q1_2 := cell_later ba2 q1
        have q2_2 := cell_later ba2 q2
        have m1_2 := cell_later ba2 m1
        have m2_2 := cell_later ba2 m2
        go_wp2_with fail
        refine (CH.out _ ba2).mono ?_
        rintro e w3 ⟨rfl, b3⟩
        have ba3 := below_on ba2 b3
        have q0_3 := cell_later ba3 q0
        have q1_3 := cell_later ba3 q1
        have q2_3 := cell_later ba3 q2
        have m1_3 := cell_later ba3 m1
        have m2_3 := cell_later ba3 m2
        go_wp2_with fail
        go_roundw
        case rel => exact ⟨k + 1, by omega, by go_num, by rw [HNT.out], HT.out, below_on hbw1 ba3⟩
        case measure => simp [intOf]; omega
    · have hkl : k = n.ws.length := by omega
      have hok : Nt.wsOk n = true := (Nt.wsOk_iff n).2 (by rw [← hkl]; exact HALL.out)
      have HOK := Lib.hid hok
      clear hok
      subst hkl
      go_wp2
      go_ret
      exact ⟨by rw [HOK.out]; rfl, below_on hb0 hbw⟩

set_option maxRecDepth 100000 in
set_option maxHeartbeats 6400000 in
theorem dnformed_any (S E B V : Option Addr) (cs ce cb cv : Nat) (n : Note) (w : World) (h1 : NoteAt w S E B V cs ce cb cv n) :
    Calls Try.prog 65 #[.agg (noteCells S E B V cs ce cb cv n)] w (Says (.bool (Nt.fmd n)) w) := by
  obtain ⟨W, hW⟩ : ∃ W, w.alloc (.cells (noteCells S E B V cs ce cb cv n) 51) = W := ⟨_, rfl⟩
  have hb0 : Below w.heap.size w W := by rw [← hW]; exact below_new (Below.refl _ _) _
  have hB0 : Blk W w.heap.size 51 (noteCells S E B V cs ce cb cv n) := by rw [← hW]; exact Blk.new w _ _
  obtain ⟨c0, c1, c2, c3⟩ := note_cells hB0
  have p0 := c0
  rw [← hW] at p0
  have HN := Lib.hid (h1.later hb0)
  have HR := Lib.hid (show Nt.fmd n = (Ve.fmd n.s && (Ve.fmd n.e && (Ve.cov (Ve.cnt n.e) (Ve.cnt n.s) && (Sp.fmd n.b && Nt.wsOk n)))) from rfl)
  have N0 := Lib.hid (fun wx (hb : Below W.heap.size W wx) => formed_any S cs n.s wx (HN.out.hs.later hb))
  have N1 := Lib.hid (fun wx (hb : Below W.heap.size W wx) => formed_any E ce n.e wx (HN.out.he.later hb))
  have N2 := Lib.hid (fun wx (hb : Below W.heap.size W wx) => covers_any E S ce cs n.e n.s wx (HN.out.he.later hb) (HN.out.hs.later hb))
  have N3 := Lib.hid (fun wx (hb : Below W.heap.size W wx) => spformed_any B cb n.b wx (HN.out.hb.later hb))
  have N4 := Lib.hid (fun wx (hb : Below W.heap.size W wx) => (show Calls Try.prog 100 #[.agg #[.slice S n.s.length cs, .slice E n.e.length ce, .slice B n.b.length cb, .slice V n.ws.length cv]] wx (Says (.bool (Nt.wsOk n)) wx) from nformedWrites_any S E B V cs ce cb cv n wx (HN.out.later hb)))
  obtain ⟨x0, hx0⟩ : ∃ x, Ve.fmd n.s = x := ⟨_, rfl⟩
  obtain ⟨x1, hx1⟩ : ∃ x, Ve.fmd n.e = x := ⟨_, rfl⟩
  obtain ⟨x2, hx2⟩ : ∃ x, Ve.cov (Ve.cnt n.e) (Ve.cnt n.s) = x := ⟨_, rfl⟩
  obtain ⟨x3, hx3⟩ : ∃ x, Sp.fmd n.b = x := ⟨_, rfl⟩
  obtain ⟨x4, hx4⟩ : ∃ x, Nt.wsOk n = x := ⟨_, rfl⟩
  rw [hx0] at N0 HR
  rw [hx1] at N1 HR
  rw [hx2] at N2 HR
  rw [hx3] at N3 HR
  rw [hx4] at N4 HR
  have HW := Lib.hid hW
  clear hW hx0 hx1 hx2 hx3 hx4 hB0 h1
  have bb0 := Below.refl W.heap.size W
  cases x0 with
  | false =>
    go_enter Try.func65, Try.ntmps65
    go_wp2_with fail
    rw [HW.out]
    refine (N0.out _ bb0).mono ?_
    rintro e w1 ⟨rfl, b1⟩
    have bb1 := below_on bb0 b1
    have c0_1 := cell_later bb1 c0
    have c1_1 := cell_later bb1 c1
    have c2_1 := cell_later bb1 c2
    have c3_1 := cell_later bb1 c3
    clear p0
    go_wp2
    go_ret
    exact ⟨by rw [HR.out]; rfl, below_on hb0 bb1⟩
  | true =>
  cases x1 with
  | false =>
    go_enter Try.func65, Try.ntmps65
    go_wp2_with fail
    rw [HW.out]
    refine (N0.out _ bb0).mono ?_
    rintro e w1 ⟨rfl, b1⟩
    have bb1 := below_on bb0 b1
    have c0_1 := cell_later bb1 c0
    have c1_1 := cell_later bb1 c1
    have c2_1 := cell_later bb1 c2
    have c3_1 := cell_later bb1 c3
    clear p0
    go_wp2_with fail
    refine (N1.out _ bb1).mono ?_
    rintro e w2 ⟨rfl, b2⟩
    have bb2 := below_on bb1 b2
    have c0_2 := cell_later bb2 c0
    have c1_2 := cell_later bb2 c1
    have c2_2 := cell_later bb2 c2
    have c3_2 := cell_later bb2 c3
    clear c0_1 c1_1 c2_1 c3_1
    go_wp2
    go_ret
    exact ⟨by rw [HR.out]; rfl, below_on hb0 bb2⟩
  | true =>
  cases x2 with
  | false =>
    go_enter Try.func65, Try.ntmps65
    go_wp2_with fail
    rw [HW.out]
    refine (N0.out _ bb0).mono ?_
    rintro e w1 ⟨rfl, b1⟩
    have bb1 := below_on bb0 b1
    have c0_1 := cell_later bb1 c0
    have c1_1 := cell_later bb1 c1
    have c2_1 := cell_later bb1 c2
    have c3_1 := cell_later bb1 c3
    clear p0
    go_wp2_with fail
    refine (N1.out _ bb1).mono ?_
    rintro e w2 ⟨rfl, b2⟩
    have bb2 := below_on bb1 b2
    have c0_2 := cell_later bb2 c0
    have c1_2 := cell_later bb2 c1
    have c2_2 := cell_later bb2 c2
    have c3_2 := cell_later bb2 c3
    clear c0_1 c1_1 c2_1 c3_1
    go_wp2_with fail
    refine (N2.out _ bb2).mono ?_
    rintro e w3 ⟨rfl, b3⟩
    have bb3 := below_on bb2 b3
    have c0_3 := cell_later bb3 c0
    have c1_3 := cell_later bb3 c1
    have c2_3 := cell_later bb3 c2
    have c3_3 := cell_later bb3 c3
    clear c0_2 c1_2 c2_2 c3_2
    go_wp2
    go_ret
    exact ⟨by rw [HR.out]; rfl, below_on hb0 bb3⟩
  | true =>
  cases x3 with
  | false =>
    go_enter Try.func65, Try.ntmps65
    go_wp2_with fail
    rw [HW.out]
    refine (N0.out _ bb0).mono ?_
    rintro e w1 ⟨rfl, b1⟩
    have bb1 := below_on bb0 b1
    have c0_1 := cell_later bb1 c0
    have c1_1 := cell_later bb1 c1
    have c2_1 := cell_later bb1 c2
    have c3_1 := cell_later bb1 c3
    clear p0
    go_wp2_with fail
    refine (N1.out _ bb1).mono ?_
    rintro e w2 ⟨rfl, b2⟩
    have bb2 := below_on bb1 b2
    have c0_2 := cell_later bb2 c0
    have c1_2 := cell_later bb2 c1
    have c2_2 := cell_later bb2 c2
    have c3_2 := cell_later bb2 c3
    clear c0_1 c1_1 c2_1 c3_1
    go_wp2_with fail
    refine (N2.out _ bb2).mono ?_
    rintro e w3 ⟨rfl, b3⟩
    have bb3 := below_on bb2 b3
    have c0_3 := cell_later bb3 c0
    have c1_3 := cell_later bb3 c1
    have c2_3 := cell_later bb3 c2
    have c3_3 := cell_later bb3 c3
    clear c0_2 c1_2 c2_2 c3_2
    go_wp2_with fail
    refine (N3.out _ bb3).mono ?_
    rintro e w4 ⟨rfl, b4⟩
    have bb4 := below_on bb3 b4
    have c0_4 := cell_later bb4 c0
    have c1_4 := cell_later bb4 c1
    have c2_4 := cell_later bb4 c2
    have c3_4 := cell_later bb4 c3
    clear c0_3 c1_3 c2_3 c3_3
    go_wp2
    go_ret
    exact ⟨by rw [HR.out]; rfl, below_on hb0 bb4⟩
  | true =>
  go_enter Try.func65, Try.ntmps65
  go_wp2_with fail
  rw [HW.out]
  refine (N0.out _ bb0).mono ?_
  rintro e w1 ⟨rfl, b1⟩
  have bb1 := below_on bb0 b1
  have c0_1 := cell_later bb1 c0
  have c1_1 := cell_later bb1 c1
  have c2_1 := cell_later bb1 c2
  have c3_1 := cell_later bb1 c3
  clear p0
  go_wp2_with fail
  refine (N1.out _ bb1).mono ?_
  rintro e w2 ⟨rfl, b2⟩
  have bb2 := below_on bb1 b2
  have c0_2 := cell_later bb2 c0
  have c1_2 := cell_later bb2 c1
  have c2_2 := cell_later bb2 c2
  have c3_2 := cell_later bb2 c3
  clear c0_1 c1_1 c2_1 c3_1
  go_wp2_with fail
  refine (N2.out _ bb2).mono ?_
  rintro e w3 ⟨rfl, b3⟩
  have bb3 := below_on bb2 b3
  have c0_3 := cell_later bb3 c0
  have c1_3 := cell_later bb3 c1
  have c2_3 := cell_later bb3 c2
  have c3_3 := cell_later bb3 c3
  clear c0_2 c1_2 c2_2 c3_2
  go_wp2_with fail
  refine (N3.out _ bb3).mono ?_
  rintro e w4 ⟨rfl, b4⟩
  have bb4 := below_on bb3 b4
  have c0_4 := cell_later bb4 c0
  have c1_4 := cell_later bb4 c1
  have c2_4 := cell_later bb4 c2
  have c3_4 := cell_later bb4 c3
  clear c0_3 c1_3 c2_3 c3_3
  go_wp2_with fail
  refine (N4.out _ bb4).mono ?_
  rintro e w5 ⟨rfl, b5⟩
  have bb5 := below_on bb4 b5
  have c0_5 := cell_later bb5 c0
  have c1_5 := cell_later bb5 c1
  have c2_5 := cell_later bb5 c2
  have c3_5 := cell_later bb5 c3
  clear c0_4 c1_4 c2_4 c3_4
  go_wp2
  go_ret
  exact ⟨by rw [HR.out]; rfl, below_on hb0 bb5⟩

end Go.Proofs.Ytbbmngabbbehcaa
namespace Go.Proofs.Ytbbmngabbbehcaa
open Go.RowKit

set_option maxHeartbeats 800000 in
theorem disObject_any (o : Int) (w : World) : Calls Try.prog 105 #[.int .i64 o] w (Says (.bool (decide (0 ≤ o ∧ o ≤ 255))) w) := by
  by_cases h0 : 0 ≤ o
  · have d0 : decide (0 ≤ o) = true := decide_eq_true h0
    by_cases h1 : o < 256
    · have d1 : decide (o < 256) = true := decide_eq_true h1
      rw [show decide (0 ≤ o ∧ o ≤ 255) = true from decide_eq_true (by omega)]
      go_enter Try.func105, Try.ntmps105
      go_wp2
      go_ret
      exact ⟨rfl, Below.refl _ _⟩
    · have d1 : decide (o < 256) = false := decide_eq_false h1
      rw [show decide (0 ≤ o ∧ o ≤ 255) = false from decide_eq_false (by omega)]
      go_enter Try.func105, Try.ntmps105
      go_wp2
      go_ret
      exact ⟨rfl, Below.refl _ _⟩
  · have d0 : decide (0 ≤ o) = false := decide_eq_false h0
    rw [show decide (0 ≤ o ∧ o ≤ 255) = false from decide_eq_false (by omega)]
    go_enter Try.func105, Try.ntmps105
    go_wp2
    go_ret
    exact ⟨rfl, Below.refl _ _⟩

set_option maxHeartbeats 800000 in
theorem disNode_any (o : Int) (w : World) : Calls Try.prog 79 #[.int .i64 o] w (Says (.bool (decide (0 ≤ o ∧ o ≤ 63))) w) := by
  by_cases h0 : 0 ≤ o
  · have d0 : decide (0 ≤ o) = true := decide_eq_true h0
    by_cases h1 : o < 64
    · have d1 : decide (o < 64) = true := decide_eq_true h1
      rw [show decide (0 ≤ o ∧ o ≤ 63) = true from decide_eq_true (by omega)]
      go_enter Try.func79, Try.ntmps79
      go_wp2
      go_ret
      exact ⟨rfl, Below.refl _ _⟩
    · have d1 : decide (o < 64) = false := decide_eq_false h1
      rw [show decide (0 ≤ o ∧ o ≤ 63) = false from decide_eq_false (by omega)]
      go_enter Try.func79, Try.ntmps79
      go_wp2
      go_ret
      exact ⟨rfl, Below.refl _ _⟩
  · have d0 : decide (0 ≤ o) = false := decide_eq_false h0
    rw [show decide (0 ≤ o ∧ o ≤ 63) = false from decide_eq_false (by omega)]
    go_enter Try.func79, Try.ntmps79
    go_wp2
    go_ret
    exact ⟨rfl, Below.refl _ _⟩

set_option maxHeartbeats 3200000 in
theorem dfbody_any (D : Option Addr) (d : Nat) (x : Bd) (w : World) :
    Calls Try.prog 72 #[.agg (bdCells D d x)] w (Says (.bool (Wi.bright x)) w) := by
  obtain ⟨o, c, n, l⟩ := x
  unfold bdCells
  simp only
  obtain ⟨W, hW⟩ : ∃ W, w.alloc (.cells #[.int .i64 o, .int .i64 c, .int .i64 n, .slice D l.length d] 63) = W := ⟨_, rfl⟩
  have hb0 : Below w.heap.size w W := by rw [← hW]; exact below_new (Below.refl _ _) _
  have hB0 : Blk W w.heap.size 63 #[.int .i64 o, .int .i64 c, .int .i64 n, .slice D l.length d] := by rw [← hW]; exact Blk.new w _ _
  have c0 := hB0.cell (i := 0) rfl
  have c1 := hB0.cell (i := 1) rfl
  have c2 := hB0.cell (i := 2) rfl
  have c3 := hB0.cell (i := 3) rfl
  have hR := Lib.hid (show Wi.bright ⟨o, c, n, l⟩ = (decide (0 ≤ o) && (decide (o ≤ 255) && (St.rgt c n && decide (l.length ≤ 256)))) from rfl)
  have HW := Lib.hid hW
  have NO := Lib.hid (disObject_any o W)
  have NR := Lib.hid (fun wx => right_any c n wx)
  obtain ⟨rg, hrg⟩ : ∃ rg, St.rgt c n = rg := ⟨_, rfl⟩
  rw [hrg] at hR NR
  clear hW hrg
  by_cases h1 : 0 ≤ o ∧ o ≤ 255
  · rw [decide_eq_true h1] at NO
    have d1 := decide_eq_true h1.1
    have d2 := decide_eq_true h1.2
    have HRR := hR.out
    rw [d1, d2] at HRR
    have HRR := Lib.hid HRR
    clear d1 d2 h1
    go_enter Try.func72, Try.ntmps72
    go_wp2_with fail
    rw [HW.out]
    refine NO.out.mono ?_
    rintro e w1 ⟨rfl, b1⟩
    have e1 := cell_later b1 c1
    have e2 := cell_later b1 c2
    have e3 := cell_later b1 c3
    clear c0 c1 c2 c3 NO
    cases rg with
    | true =>
      go_wp2_with fail
      refine (NR.out _).mono ?_
      rintro e w2 ⟨rfl, b2⟩
      have f3 := cell_later b2 e3
      have hb2 := below_on (below_on hb0 b1) b2
      clear e1 e2 e3
      by_cases h3 : l.length ≤ 256
      · have d3 : decide ((l.length : Int) ≤ 256) = true := decide_eq_true (by omega)
        go_wp2
        go_ret
        exact ⟨by rw [HRR.out, decide_eq_true h3]; first | rfl | simp, hb2⟩
      · have d3 : decide ((l.length : Int) ≤ 256) = false := decide_eq_false (by omega)
        go_wp2
        go_ret
        exact ⟨by rw [HRR.out, decide_eq_false h3]; first | rfl | simp, hb2⟩
    | false =>
      go_wp2_with fail
      refine (NR.out _).mono ?_
      rintro e w2 ⟨rfl, b2⟩
      have hb2 := below_on (below_on hb0 b1) b2
      go_wp2
      go_ret
      exact ⟨by rw [HRR.out]; first | rfl | simp, hb2⟩
  · rw [decide_eq_false h1] at NO
    have HRR : Wi.bright ⟨o, c, n, l⟩ = false := by
      rw [hR.out]
      by_cases h0 : 0 ≤ o
      · rw [decide_eq_true h0, decide_eq_false (show ¬ o ≤ 255 from fun h => h1 ⟨h0, h⟩)]; rfl
      · rw [decide_eq_false h0]; rfl
    have HRR := Lib.hid HRR
    clear h1
    go_enter Try.func72, Try.ntmps72
    go_wp2_with fail
    rw [HW.out]
    refine NO.out.mono ?_
    rintro e w1 ⟨rfl, b1⟩
    go_wp2
    go_ret
    exact ⟨by rw [HRR.out]; first | rfl | simp, below_on hb0 b1⟩

namespace Wi
/-- Is nothing set in it beside its kind and its nodes? -/
def nof (m : Ms) : Bool := decide (m.s = 0) && (decide (m.q = 0) && (decide ((m.it.length : Int) = 0) && (decide ((m.vc.length : Int) = 0) && (decide ((m.ns.length : Int) = 0) && (decide (m.bd.o = 0) && (decide (m.bd.c = 0) && (decide (m.bd.n = 0) && decide ((m.bd.v.length : Int) = 0))))))))
end Wi
set_option maxRecDepth 100000 in
set_option maxHeartbeats 6400000 in
theorem dnof_any (I V N D : Option Addr) (ci cv cn d : Nat) (m : Ms) (w : World) :
    Calls Try.prog 113 #[.agg (msCells I V N D ci cv cn d m)] w (Says (.bool (Wi.nof m)) w) := by
  obtain ⟨mk, mf, mt, ms, mq, mit, mvc, mns, mbd⟩ := m
  obtain ⟨mo, mc, mn, mv⟩ := mbd
  unfold msCells
  simp only
  obtain ⟨W, hW⟩ : ∃ W, w.alloc (.cells #[.int .i64 mk, .int .i64 mf, .int .i64 mt, .int .i64 ms, .int .i64 mq, .slice I mit.length ci, .slice V mvc.length cv, .slice N mns.length cn, .int .i64 mo, .int .i64 mc, .int .i64 mn, .slice D mv.length d] 74) = W := ⟨_, rfl⟩
  have hb0 : Below w.heap.size w W := by rw [← hW]; exact below_new (Below.refl _ _) _
  have hB0 : Blk W w.heap.size 74 #[.int .i64 mk, .int .i64 mf, .int .i64 mt, .int .i64 ms, .int .i64 mq, .slice I mit.length ci, .slice V mvc.length cv, .slice N mns.length cn, .int .i64 mo, .int .i64 mc, .int .i64 mn, .slice D mv.length d] := by rw [← hW]; exact Blk.new w _ _
  have c3 := hB0.cell (i := 3) rfl
  have c4 := hB0.cell (i := 4) rfl
  have c5 := hB0.cell (i := 5) rfl
  have c6 := hB0.cell (i := 6) rfl
  have c7 := hB0.cell (i := 7) rfl
  have c8 := hB0.cell (i := 8) rfl
  have c9 := hB0.cell (i := 9) rfl
  have c10 := hB0.cell (i := 10) rfl
  have c11 := hB0.cell (i := 11) rfl
  have hR := Lib.hid (show Wi.nof ⟨mk, mf, mt, ms, mq, mit, mvc, mns, ⟨mo, mc, mn, mv⟩⟩ = (decide (ms = 0) && (decide (mq = 0) && (decide ((mit.length : Int) = 0) && (decide ((mvc.length : Int) = 0) && (decide ((mns.length : Int) = 0) && (decide (mo = 0) && (decide (mc = 0) && (decide (mn = 0) && (decide ((mv.length : Int) = 0)))))))))) from rfl)
  have HW := Lib.hid hW
  have HB0 := Lib.hid hb0
  clear hW hb0 hB0
  by_cases h0 : ms = 0
  · have e0 : (ms == 0) = true := beq_iff_eq.2 h0
    have D0 := Lib.hid (decide_eq_true h0)
    clear h0
    by_cases h1 : mq = 0
    · have e1 : (mq == 0) = true := beq_iff_eq.2 h1
      have D1 := Lib.hid (decide_eq_true h1)
      clear h1
      by_cases h2 : (mit.length : Int) = 0
      · have e2 : ((mit.length : Int) == 0) = true := beq_iff_eq.2 h2
        have D2 := Lib.hid (decide_eq_true h2)
        clear h2
        by_cases h3 : (mvc.length : Int) = 0
        · have e3 : ((mvc.length : Int) == 0) = true := beq_iff_eq.2 h3
          have D3 := Lib.hid (decide_eq_true h3)
          clear h3
          by_cases h4 : (mns.length : Int) = 0
          · have e4 : ((mns.length : Int) == 0) = true := beq_iff_eq.2 h4
            have D4 := Lib.hid (decide_eq_true h4)
            clear h4
            by_cases h5 : mo = 0
            · have e5 : (mo == 0) = true := beq_iff_eq.2 h5
              have D5 := Lib.hid (decide_eq_true h5)
              clear h5
              by_cases h6 : mc = 0
              · have e6 : (mc == 0) = true := beq_iff_eq.2 h6
                have D6 := Lib.hid (decide_eq_true h6)
                clear h6
                by_cases h7 : mn = 0
                · have e7 : (mn == 0) = true := beq_iff_eq.2 h7
                  have D7 := Lib.hid (decide_eq_true h7)
                  clear h7
                  by_cases h8 : (mv.length : Int) = 0
                  · have e8 : ((mv.length : Int) == 0) = true := beq_iff_eq.2 h8
                    have D8 := Lib.hid (decide_eq_true h8)
                    clear h8
                    go_enter Try.func113, Try.ntmps113
                    go_wp2_with fail
                    rw [HW.out]
                    go_wp2
                    go_ret
                    exact ⟨by rw [hR.out, D0.out, D1.out, D2.out, D3.out, D4.out, D5.out, D6.out, D7.out, D8.out]; first | rfl | simp, HB0.out⟩
                  · have e8 : ((mv.length : Int) == 0) = false := beq_eq_false_iff_ne.2 h8
                    have D8 := Lib.hid (decide_eq_false h8)
                    clear h8
                    go_enter Try.func113, Try.ntmps113
                    go_wp2_with fail
                    rw [HW.out]
                    go_wp2
                    go_ret
                    exact ⟨by rw [hR.out, D0.out, D1.out, D2.out, D3.out, D4.out, D5.out, D6.out, D7.out, D8.out]; first | rfl | simp, HB0.out⟩
                · have e7 : (mn == 0) = false := beq_eq_false_iff_ne.2 h7
                  have D7 := Lib.hid (decide_eq_false h7)
                  clear h7
                  go_enter Try.func113, Try.ntmps113
                  go_wp2_with fail
                  rw [HW.out]
                  go_wp2
                  go_ret
                  exact ⟨by rw [hR.out, D0.out, D1.out, D2.out, D3.out, D4.out, D5.out, D6.out, D7.out]; first | rfl | simp, HB0.out⟩
              · have e6 : (mc == 0) = false := beq_eq_false_iff_ne.2 h6
                have D6 := Lib.hid (decide_eq_false h6)
                clear h6
                go_enter Try.func113, Try.ntmps113
                go_wp2_with fail
                rw [HW.out]
                go_wp2
                go_ret
                exact ⟨by rw [hR.out, D0.out, D1.out, D2.out, D3.out, D4.out, D5.out, D6.out]; first | rfl | simp, HB0.out⟩
            · have e5 : (mo == 0) = false := beq_eq_false_iff_ne.2 h5
              have D5 := Lib.hid (decide_eq_false h5)
              clear h5
              go_enter Try.func113, Try.ntmps113
              go_wp2_with fail
              rw [HW.out]
              go_wp2
              go_ret
              exact ⟨by rw [hR.out, D0.out, D1.out, D2.out, D3.out, D4.out, D5.out]; first | rfl | simp, HB0.out⟩
          · have e4 : ((mns.length : Int) == 0) = false := beq_eq_false_iff_ne.2 h4
            have D4 := Lib.hid (decide_eq_false h4)
            clear h4
            go_enter Try.func113, Try.ntmps113
            go_wp2_with fail
            rw [HW.out]
            go_wp2
            go_ret
            exact ⟨by rw [hR.out, D0.out, D1.out, D2.out, D3.out, D4.out]; first | rfl | simp, HB0.out⟩
        · have e3 : ((mvc.length : Int) == 0) = false := beq_eq_false_iff_ne.2 h3
          have D3 := Lib.hid (decide_eq_false h3)
          clear h3
          go_enter Try.func113, Try.ntmps113
          go_wp2_with fail
          rw [HW.out]
          go_wp2
          go_ret
          exact ⟨by rw [hR.out, D0.out, D1.out, D2.out, D3.out]; first | rfl | simp, HB0.out⟩
      · have e2 : ((mit.length : Int) == 0) = false := beq_eq_false_iff_ne.2 h2
        have D2 := Lib.hid (decide_eq_false h2)
        clear h2
        go_enter Try.func113, Try.ntmps113
        go_wp2_with fail
        rw [HW.out]
        go_wp2
        go_ret
        exact ⟨by rw [hR.out, D0.out, D1.out, D2.out]; first | rfl | simp, HB0.out⟩
    · have e1 : (mq == 0) = false := beq_eq_false_iff_ne.2 h1
      have D1 := Lib.hid (decide_eq_false h1)
      clear h1
      go_enter Try.func113, Try.ntmps113
      go_wp2_with fail
      rw [HW.out]
      go_wp2
      go_ret
      exact ⟨by rw [hR.out, D0.out, D1.out]; first | rfl | simp, HB0.out⟩
  · have e0 : (ms == 0) = false := beq_eq_false_iff_ne.2 h0
    have D0 := Lib.hid (decide_eq_false h0)
    clear h0
    go_enter Try.func113, Try.ntmps113
    go_wp2_with fail
    rw [HW.out]
    go_wp2
    go_ret
    exact ⟨by rw [hR.out, D0.out]; first | rfl | simp, HB0.out⟩

theorem all_take {l : List Note} (h : ∀ k, k < l.length → Nt.fmd (l.getD k zeroN) = true) : l.all Nt.fmd = true := by
  rw [List.all_eq_true]
  intro x hx
  obtain ⟨k, hk, rfl⟩ := List.getElem_of_mem hx
  have := h k hk
  rwa [List.getD_eq_getElem?_getD, List.getElem?_eq_getElem hk] at this
theorem all_not {l : List Note} (k : Nat) (hk : k < l.length) (h : Nt.fmd (l.getD k zeroN) = false) : l.all Nt.fmd = false := by
  cases ha : l.all Nt.fmd with
  | false => rfl
  | true =>
    have := List.all_eq_true.1 ha (l.getD k zeroN) (by rw [List.getD_eq_getElem?_getD, List.getElem?_eq_getElem hk]; exact List.getElem_mem hk)
    rw [h] at this
    cases this
set_option maxRecDepth 100000 in
set_option maxHeartbeats 6400000 in
theorem dfnotes_any (A : Option Addr) (c : Nat) (l : List Note) (w : World) (h : OneN w A c l) :
    Calls Try.prog 112 #[.slice A l.length c] w (Says (.bool (decide (l.length ≤ 257) && l.all Nt.fmd)) w) := by
  have hlen := h.len
  have H := Lib.hid h
  clear h
  by_cases hm : l.length ≤ 257
  · have d0 : decide ((257 : Int) < (l.length : Int)) = false := decide_eq_false (by omega)
    have hi : ¬ (257 : Int) < (l.length : Int) := by omega
    rw [decide_eq_true hm, Bool.true_and]
    go_enter Try.func112, Try.ntmps112
    go_wp2_with fail
    go_loopw [10] (fun s10 wr => ∃ k : Nat, k ≤ l.length ∧ s10 = .int .i64 (k : Int) ∧ Below w.heap.size w wr ∧ (∀ j, j < k → Nt.fmd (l.getD j zeroN) = true)) (fun s10 _ => l.length - (intOf s10).toNat)
    case atStart => exact ⟨0, by omega, rfl, Below.refl _ _, fun j hj => absurd hj (by omega)⟩
    case round =>
      obtain ⟨k, hk, rfl, hbw, hall⟩ := hrel
      by_cases hkl : k < l.length
      · have hdk : decide ((k : Int) < (l.length : Int)) = true := decide_eq_true (by omega)
        have hne : l ≠ [] := fun e => by rw [e] at hkl; simp at hkl
        obtain ⟨b, off, hA, hcA⟩ := H.out.lies hne
        obtain ⟨S, E, B, V, cs, ce, cb, cv, c0, c1, c2, c3, hna⟩ := hcA k hkl
        have d0 := cell_later hbw c0; have d1 := cell_later hbw c1; have d2 := cell_later hbw c2; have d3 := cell_later hbw c3
        subst hA
        obtain ⟨x, hx⟩ : ∃ x, l.getD k zeroN = x := ⟨_, rfl⟩
        rw [hx] at d0 d1 d2 d3 hna
        have hi1 : (0 : Int) ≤ (k : Int) := by omega
        have hi2 : (k : Int) < (l.length : Int) := by omega
        have b1 := below_new (Below.refl wr.heap.size wr) (.cells #[.slice S x.s.length cs, .slice E x.e.length ce, .slice B x.b.length cb, .slice V x.ws.length cv] 51)
        have CE := Lib.hid (dnformed_any S E B V cs ce cb cv x _ ((hna.later hbw).later b1))
        unfold noteCells at CE
        obtain ⟨fb, hfb⟩ : ∃ fb, Nt.fmd x = fb := ⟨_, rfl⟩
        rw [hfb] at CE
        have HFB := Lib.hid (hx ▸ hfb : Nt.fmd (l.getD k zeroN) = fb)
        have HBW := Lib.hid (below_on hbw b1); have HALL := Lib.hid hall
        clear hcA c0 c1 c2 c3 hna hx hfb hall hbw b1 hne
        cases fb with
        | true =>
          go_wp2_with fail
          refine CE.out.mono ?_
          rintro e w2 ⟨rfl, b2⟩
          have HB2 := Lib.hid (below_on HBW.out b2)
          clear b2 CE d0 d1 d2 d3
          go_wp2_with fail
          go_roundw
          case rel => exact ⟨k + 1, by omega, by first | rfl | (congr 1; omega), HB2.out, fun j hj => by
            by_cases e : j = k
            · subst e; exact HFB.out
            · exact HALL.out j (by omega)⟩
          case measure => simp [intOf]; omega
        | false =>
          have HNO := Lib.hid (all_not k hkl HFB.out)
          go_wp2_with fail
          refine CE.out.mono ?_
          rintro e w2 ⟨rfl, b2⟩
          have HB2 := Lib.hid (below_on HBW.out b2)
          clear b2 CE d0 d1 d2 d3
          go_wp2
          go_ret
          exact ⟨by rw [HNO.out]; first | rfl | simp, HB2.out⟩
      · obtain rfl : k = l.length := by omega
        have hdk : decide ((l.length : Int) < (l.length : Int)) = false := decide_eq_false (by omega)
        have HALL := Lib.hid (all_take hall); have HBW := Lib.hid hbw
        clear hall hbw
        go_wp2
        go_ret
        exact ⟨by rw [HALL.out]; first | rfl | simp, HBW.out⟩
  · have d0 : decide ((257 : Int) < (l.length : Int)) = true := decide_eq_true (by omega)
    have hi : (257 : Int) < (l.length : Int) := by omega
    rw [decide_eq_false hm, Bool.false_and]
    go_enter Try.func112, Try.ntmps112
    go_wp2
    go_ret
    exact ⟨rfl, Below.refl _ _⟩

end Go.Proofs.Ytbbmngabbbehcaa
namespace Go.Proofs.Ytbbmngabbbehcaa
open Go.RowKit

namespace Wi
def mhdr (m : Ms) : Bool := decide (m.f < 0) || (decide (63 < m.f) || (decide (m.t < 0) || (decide (63 < m.t) || (decide (m.s < 0) || (decide (m.q < 0) || decide (257 < (m.ns.length : Int)))))))
def msub (m : Ms) : Bool := decide ((m.it.length : Int) = 0) && decide ((m.vc.length : Int) = 0)
def mrow (m : Ms) : Bool := decide (m.s = 0) && (decide (m.q = 0) && decide ((m.ns.length : Int) = 0))
def mnone (m : Ms) : Bool := decide (m.bd.o = 0) && bempty m.bd
/-- Is it a message as it must be? -/
def mfmd (m : Ms) : Bool :=
  if mhdr m then false
  else if m.k = 1 then decide (m.q = 0) && (decide ((m.ns.length : Int) = 0) && (mnone m && (decide (0 < (m.it.length : Int)) && (Sp.fmd m.it && Ve.fmd m.vc))))
  else if m.k = 2 then msub m && (mrow m && mnone m)
  else if m.k = 3 then m.ns.all Nt.fmd && (msub m && mnone m)
  else if m.k = 4 then msub m && (mrow m && (decide (0 ≤ m.bd.o) && (decide (m.bd.o ≤ 255) && bempty m.bd)))
  else if m.k = 5 then msub m && (mrow m && bright m.bd)
  else false
end Wi

set_option maxHeartbeats 12800000 in
set_option maxRecDepth 100000 in
theorem mformed_any (I V N D : Option Addr) (ci cv cn d : Nat) (m : Ms) (w : World) (h : MsAt w I V N D ci cv cn d m) :
    Calls Try.prog 41 #[.agg (msCells I V N D ci cv cn d m)] w (Says (.bool (Wi.mfmd m)) w) := by
  obtain ⟨k, f, t, s, q, i, v, n, ⟨bo, bc, bn, bl⟩⟩ := m
  unfold msCells
  simp only
  obtain ⟨W, hW⟩ : ∃ W, w.alloc (.cells #[.int .i64 k, .int .i64 f, .int .i64 t, .int .i64 s, .int .i64 q, .slice I i.length ci, .slice V v.length cv, .slice N n.length cn, .int .i64 bo, .int .i64 bc, .int .i64 bn, .slice D bl.length d] 74) = W := ⟨_, rfl⟩
  have hb0 : Below w.heap.size w W := by rw [← hW]; exact below_new (Below.refl _ _) _
  have hB : Blk W w.heap.size 74 #[.int .i64 k, .int .i64 f, .int .i64 t, .int .i64 s, .int .i64 q, .slice I i.length ci, .slice V v.length cv, .slice N n.length cn, .int .i64 bo, .int .i64 bc, .int .i64 bn, .slice D bl.length d] := by rw [← hW]; exact Blk.new w _ _
  have H := Lib.hid (h.later hb0)
  have HB := Lib.hid hB; have HW := Lib.hid hW
  have NI := Lib.hid (fun wx (hb : Below W.heap.size W wx) => sformed_any I ci i wx (H.out.hi.later hb))
  have NVx := Lib.hid (fun wx (hb : Below W.heap.size W wx) => rformed_any V cv v wx (H.out.hv.later hb).len (H.out.hv.later hb).stamps)
  have NE := Lib.hid (fun wx => bempty_any D d ⟨bo, bc, bn, bl⟩ wx)
  have NR := Lib.hid (fun wx => bright_any D d ⟨bo, bc, bn, bl⟩ wx)
  have ln := h.hn.len
  have HR := Lib.hid (show Wi.mfmd ⟨k, f, t, s, q, i, v, n, ⟨bo, bc, bn, bl⟩⟩ = (if Wi.mhdr ⟨k, f, t, s, q, i, v, n, ⟨bo, bc, bn, bl⟩⟩ then false
    else if k = 1 then decide (q = 0) && (decide ((n.length : Int) = 0) && (Wi.mnone ⟨k, f, t, s, q, i, v, n, ⟨bo, bc, bn, bl⟩⟩ && (decide (0 < (i.length : Int)) && (Sp.fmd i && Ve.fmd v))))
    else if k = 2 then Wi.msub ⟨k, f, t, s, q, i, v, n, ⟨bo, bc, bn, bl⟩⟩ && (Wi.mrow ⟨k, f, t, s, q, i, v, n, ⟨bo, bc, bn, bl⟩⟩ && Wi.mnone ⟨k, f, t, s, q, i, v, n, ⟨bo, bc, bn, bl⟩⟩)
    else if k = 3 then n.all Nt.fmd && (Wi.msub ⟨k, f, t, s, q, i, v, n, ⟨bo, bc, bn, bl⟩⟩ && Wi.mnone ⟨k, f, t, s, q, i, v, n, ⟨bo, bc, bn, bl⟩⟩)
    else if k = 4 then Wi.msub ⟨k, f, t, s, q, i, v, n, ⟨bo, bc, bn, bl⟩⟩ && (Wi.mrow ⟨k, f, t, s, q, i, v, n, ⟨bo, bc, bn, bl⟩⟩ && (decide (0 ≤ bo) && (decide (bo ≤ 255) && Wi.bempty ⟨bo, bc, bn, bl⟩)))
    else if k = 5 then Wi.msub ⟨k, f, t, s, q, i, v, n, ⟨bo, bc, bn, bl⟩⟩ && (Wi.mrow ⟨k, f, t, s, q, i, v, n, ⟨bo, bc, bn, bl⟩⟩ && Wi.bright ⟨bo, bc, bn, bl⟩)
    else false) from rfl)
  obtain ⟨hd, hhd⟩ : ∃ x, Wi.mhdr ⟨k, f, t, s, q, i, v, n, ⟨bo, bc, bn, bl⟩⟩ = x := ⟨_, rfl⟩
  obtain ⟨sb, hsb⟩ : ∃ x, Wi.msub ⟨k, f, t, s, q, i, v, n, ⟨bo, bc, bn, bl⟩⟩ = x := ⟨_, rfl⟩
  obtain ⟨rw_, hrw⟩ : ∃ x, Wi.mrow ⟨k, f, t, s, q, i, v, n, ⟨bo, bc, bn, bl⟩⟩ = x := ⟨_, rfl⟩
  obtain ⟨nn, hnn⟩ : ∃ x, Wi.mnone ⟨k, f, t, s, q, i, v, n, ⟨bo, bc, bn, bl⟩⟩ = x := ⟨_, rfl⟩
  have DH : (decide (f < 0) || (decide (63 < f) || (decide (t < 0) || (decide (63 < t) || (decide (s < 0) || (decide (q < 0) || decide (257 < (n.length : Int)))))))) = hd := hhd
  have DS : (decide ((i.length : Int) = 0) && decide ((v.length : Int) = 0)) = sb := hsb
  have DR : (decide (s = 0) && (decide (q = 0) && decide ((n.length : Int) = 0))) = rw_ := hrw
  have DN : (decide (bo = 0) && Wi.bempty ⟨bo, bc, bn, bl⟩) = nn := hnn
  rw [hhd, hsb, hrw, hnn] at HR
  have HDH := Lib.hid DH; have HDS := Lib.hid DS; have HDR := Lib.hid DR; have HDN := Lib.hid DN
  have CC := Lib.hid (fun wx (hb : Below W.heap.size W wx) => hB.later hb)
  clear h hW hB hhd hsb hrw hnn DH DS DR DN
  go_enter Try.func41, Try.ntmps41
  go_upto_region 1 with fail
  rw [HW.out]
  go_cut [40] (fun s40 wx => s40 = .bool hd ∧ wx = W)
  case first =>
    have c1 := HB.out.cell (i := 1) rfl; have c2 := HB.out.cell (i := 2) rfl; have c3 := HB.out.cell (i := 3) rfl; have c4 := HB.out.cell (i := 4) rfl; have c7 := HB.out.cell (i := 7) rfl
    by_cases hf1 : f < 0
    · have ehf1 : decide (f < 0) = true := decide_eq_true hf1
      have hv := HDH.out
      rw [ehf1] at hv
      simp at hv
      subst hv
      go_wp2_with fail; go_meet; exact ⟨by first | rfl | simp, rfl⟩
    · have ehf1 : decide (f < 0) = false := decide_eq_false hf1
      by_cases hf2 : 63 < f
      · have ehf2 : decide (63 < f) = true := decide_eq_true hf2
        have hv := HDH.out
        rw [ehf1, ehf2] at hv
        simp at hv
        subst hv
        go_wp2_with fail; go_meet; exact ⟨by first | rfl | simp, rfl⟩
      · have ehf2 : decide (63 < f) = false := decide_eq_false hf2
        by_cases ht1 : t < 0
        · have eht1 : decide (t < 0) = true := decide_eq_true ht1
          have hv := HDH.out
          rw [ehf1, ehf2, eht1] at hv
          simp at hv
          subst hv
          go_wp2_with fail; go_meet; exact ⟨by first | rfl | simp, rfl⟩
        · have eht1 : decide (t < 0) = false := decide_eq_false ht1
          by_cases ht2 : 63 < t
          · have eht2 : decide (63 < t) = true := decide_eq_true ht2
            have hv := HDH.out
            rw [ehf1, ehf2, eht1, eht2] at hv
            simp at hv
            subst hv
            go_wp2_with fail; go_meet; exact ⟨by first | rfl | simp, rfl⟩
          · have eht2 : decide (63 < t) = false := decide_eq_false ht2
            by_cases hs1 : s < 0
            · have ehs1 : decide (s < 0) = true := decide_eq_true hs1
              have hv := HDH.out
              rw [ehf1, ehf2, eht1, eht2, ehs1] at hv
              simp at hv
              subst hv
              go_wp2_with fail; go_meet; exact ⟨by first | rfl | simp, rfl⟩
            · have ehs1 : decide (s < 0) = false := decide_eq_false hs1
              by_cases hq1 : q < 0
              · have ehq1 : decide (q < 0) = true := decide_eq_true hq1
                have hv := HDH.out
                rw [ehf1, ehf2, eht1, eht2, ehs1, ehq1] at hv
                simp at hv
                subst hv
                go_wp2_with fail; go_meet; exact ⟨by first | rfl | simp, rfl⟩
              · have ehq1 : decide (q < 0) = false := decide_eq_false hq1
                by_cases hn1 : 257 < (n.length : Int)
                · have ehn1 : decide (257 < (n.length : Int)) = true := decide_eq_true hn1
                  have hv := HDH.out
                  rw [ehf1, ehf2, eht1, eht2, ehs1, ehq1, ehn1] at hv
                  simp at hv
                  subst hv
                  go_wp2_with fail; go_meet; exact ⟨by first | rfl | simp, rfl⟩
                · have ehn1 : decide (257 < (n.length : Int)) = false := decide_eq_false hn1
                  have hv := HDH.out
                  rw [ehf1, ehf2, eht1, eht2, ehs1, ehq1, ehn1] at hv
                  simp at hv
                  subst hv
                  go_wp2_with fail; go_meet; exact ⟨by first | rfl | simp, rfl⟩
  case rest =>
    obtain ⟨rfl, hwc⟩ := hcut; have hwc := hwc.symm; subst hwc
    cases hd with
    | true =>
      go_wp2
      go_ret
      exact ⟨by rw [HR.out]; rfl, hb0⟩
    | false =>
      go_upto_region 3 with fail
      go_cut [3] (fun s3 wx => s3 = .bool sb ∧ wx = W)
      case first =>
        have hv := HDS.out
        obtain ⟨x0, hx0⟩ : ∃ x, x = i.length := ⟨_, rfl⟩
        have c5 : W.cell? ⟨w.heap.size, 5, none⟩ = some (.slice I x0 ci) := by rw [hx0]; exact HB.out.cell (i := 5) rfl
        rw [← hx0] at hv
        clear hx0
        obtain ⟨x1, hx1⟩ : ∃ x, x = v.length := ⟨_, rfl⟩
        have c6 : W.cell? ⟨w.heap.size, 6, none⟩ = some (.slice V x1 cv) := by rw [hx1]; exact HB.out.cell (i := 6) rfl
        rw [← hx1] at hv
        clear hx1
        have HV := Lib.hid hv; clear hv
        by_cases e0 : x0 = 0
        case neg =>
          have d0 : decide ((x0 : Int) = 0) = false := decide_eq_false (by omega)
          have g0 : ((x0 : Int) == 0) = false := beq_eq_false_iff_ne.2 (by omega)
          have hv := HV.out
          rw [d0] at hv
          simp at hv
          subst hv
          go_wp2_with fail; go_meet; exact ⟨by first | rfl | simp, rfl⟩
        subst e0
        by_cases e1 : x1 = 0
        case neg =>
          have d1 : decide ((x1 : Int) = 0) = false := decide_eq_false (by omega)
          have g1 : ((x1 : Int) == 0) = false := beq_eq_false_iff_ne.2 (by omega)
          have hv := HV.out
          rw [d1] at hv
          simp at hv
          subst hv
          go_wp2_with fail; go_meet; exact ⟨by first | rfl | simp, rfl⟩
        subst e1
        have hv := HV.out
        simp at hv
        subst hv
        go_wp2_with fail; go_meet; exact ⟨by first | rfl | simp, rfl⟩
      case rest =>
        obtain ⟨rfl, hwc⟩ := hcut; have hwc := hwc.symm; subst hwc
        go_upto_region 4 with fail
        go_cut [4] (fun s4 wx => s4 = .bool rw_ ∧ wx = W)
        case first =>
          have hv := HDR.out
          obtain ⟨x0, hx0⟩ : ∃ x, x = s := ⟨_, rfl⟩
          have c3 : W.cell? ⟨w.heap.size, 3, none⟩ = some (.int .i64 x0) := by rw [hx0]; exact HB.out.cell (i := 3) rfl
          rw [← hx0] at hv
          clear hx0
          obtain ⟨x1, hx1⟩ : ∃ x, x = q := ⟨_, rfl⟩
          have c4 : W.cell? ⟨w.heap.size, 4, none⟩ = some (.int .i64 x1) := by rw [hx1]; exact HB.out.cell (i := 4) rfl
          rw [← hx1] at hv
          clear hx1
          obtain ⟨x2, hx2⟩ : ∃ x, x = n.length := ⟨_, rfl⟩
          have c7 : W.cell? ⟨w.heap.size, 7, none⟩ = some (.slice N x2 cn) := by rw [hx2]; exact HB.out.cell (i := 7) rfl
          rw [← hx2] at hv
          clear hx2
          have HV := Lib.hid hv; clear hv
          by_cases e0 : x0 = 0
          case neg =>
            have d0 : decide ((x0 : Int) = 0) = false := decide_eq_false (by omega)
            have g0 : ((x0 : Int) == 0) = false := beq_eq_false_iff_ne.2 (by omega)
            have hv := HV.out
            rw [d0] at hv
            simp at hv
            subst hv
            go_wp2_with fail; go_meet; exact ⟨by first | rfl | simp, rfl⟩
          subst e0
          by_cases e1 : x1 = 0
          case neg =>
            have d1 : decide ((x1 : Int) = 0) = false := decide_eq_false (by omega)
            have g1 : ((x1 : Int) == 0) = false := beq_eq_false_iff_ne.2 (by omega)
            have hv := HV.out
            rw [d1] at hv
            simp at hv
            subst hv
            go_wp2_with fail; go_meet; exact ⟨by first | rfl | simp, rfl⟩
          subst e1
          by_cases e2 : x2 = 0
          case neg =>
            have d2 : decide ((x2 : Int) = 0) = false := decide_eq_false (by omega)
            have g2 : ((x2 : Int) == 0) = false := beq_eq_false_iff_ne.2 (by omega)
            have hv := HV.out
            rw [d2] at hv
            simp at hv
            subst hv
            go_wp2_with fail; go_meet; exact ⟨by first | rfl | simp, rfl⟩
          subst e2
          have hv := HV.out
          simp at hv
          subst hv
          go_wp2_with fail; go_meet; exact ⟨by first | rfl | simp, rfl⟩
        case rest =>
          obtain ⟨rfl, hwc⟩ := hcut; have hwc := hwc.symm; subst hwc
          go_upto_region 5 with fail
          go_cut [5] (fun s5 wx => s5 = .bool nn ∧ Below W.heap.size W wx)
          case first =>
            have c9 := HB.out.cell (i := 9) rfl; have c10 := HB.out.cell (i := 10) rfl; have c11 := HB.out.cell (i := 11) rfl
            have hv := HDN.out; have NE1 := NE.out W
            obtain ⟨x0, hx0⟩ : ∃ x, x = bo := ⟨_, rfl⟩
            have c8 : W.cell? ⟨w.heap.size, 8, none⟩ = some (.int .i64 x0) := by rw [hx0]; exact HB.out.cell (i := 8) rfl
            obtain ⟨be, hbe⟩ : ∃ x, Wi.bempty ⟨bo, bc, bn, bl⟩ = x := ⟨_, rfl⟩
            rw [hbe] at hv NE1
            unfold bdCells at NE1
            simp only at NE1
            rw [← hx0] at hv NE1
            have HV := Lib.hid hv; have NE2 := Lib.hid NE1; clear hv NE1 hx0 hbe
            by_cases e0 : x0 = 0
            case neg =>
              have d0 : decide (x0 = 0) = false := decide_eq_false e0
              have g0 : (x0 == 0) = false := beq_eq_false_iff_ne.2 e0
              have hv := HV.out; rw [d0] at hv; simp at hv; subst hv
              go_wp2_with fail; go_meet; exact ⟨by first | rfl | simp, Below.refl _ _⟩
            subst e0
            have hv := HV.out; simp at hv; subst hv
            go_wp2_with fail
            refine NE2.out.mono ?_
            rintro e w1 ⟨rfl, b1⟩
            go_wp2_with fail; go_meet; exact ⟨by first | rfl | simp, b1⟩
          case rest =>
            obtain ⟨rfl, hbw⟩ := hcut
            have HC := Lib.hid (CC.out wc hbw); have HBW := Lib.hid hbw
            have bw0 := below_on hb0 hbw
            have hr := HR.out
            obtain ⟨R, hRR⟩ : ∃ R, Wi.mfmd ⟨k, f, t, s, q, i, v, n, ⟨bo, bc, bn, bl⟩⟩ = R := ⟨_, rfl⟩
            rw [hRR] at hr; have HRD := Lib.hid hRR; clear hRR
            obtain ⟨x, hx⟩ : ∃ x, x = k := ⟨_, rfl⟩
            rw [← hx] at hr
            have c0 : wc.cell? ⟨w.heap.size, 0, none⟩ = some (.int .i64 x) := by rw [hx]; exact HC.out.cell (i := 0) rfl
            have HB2 := CC; have HRX := Lib.hid hr; clear hr hx hbw HR HDH HDS HDR HDN HB CC
            by_cases k1 : x = 1
            · subst k1
              have hr := HRX.out; rw [if_neg (show ¬ (false = true) by decide), if_pos rfl] at hr
              obtain ⟨x4, hx4⟩ : ∃ x, x = q := ⟨_, rfl⟩
              have c4 : wc.cell? ⟨w.heap.size, 4, none⟩ = some (.int .i64 x4) := by rw [hx4]; exact HC.out.cell (i := 4) rfl
              rw [← hx4] at hr
              clear hx4
              obtain ⟨x7, hx7⟩ : ∃ x, x = n.length := ⟨_, rfl⟩
              have c7 : wc.cell? ⟨w.heap.size, 7, none⟩ = some (.slice N x7 cn) := by rw [hx7]; exact HC.out.cell (i := 7) rfl
              rw [← hx7] at hr
              clear hx7
              have HK := Lib.hid hr; clear hr HRX
              by_cases e4 : x4 = 0
              case neg =>
                have g4 : (x4 == 0) = false := beq_eq_false_iff_ne.2 e4
                have HK2 := Lib.hid (show R = false from by have hr := HK.out; rw [decide_eq_false e4] at hr; simpa using hr)
                clear HK
                go_wp2
                go_ret
                exact ⟨by rw [HRD.out, HK2.out]; first | rfl | simp, bw0⟩
              subst e4
              by_cases e7 : x7 = 0
              case neg =>
                have g7 : ((x7 : Int) == 0) = false := beq_eq_false_iff_ne.2 (by omega)
                have HK2 := Lib.hid (show R = false from by have hr := HK.out; rw [decide_eq_false (show ¬ (x7 : Int) = 0 by omega)] at hr; simpa using hr)
                clear HK
                go_wp2
                go_ret
                exact ⟨by rw [HRD.out, HK2.out]; first | rfl | simp, bw0⟩
              subst e7
              cases nn with
              | false =>
                go_wp2
                go_ret
                exact ⟨by rw [HRD.out, HK.out]; first | rfl | simp, bw0⟩
              | true =>
                have c5 := HC.out.cell (i := 5) rfl
                by_cases hi : 0 < (i.length : Int)
                case neg =>
                  have di : decide (0 < (i.length : Int)) = false := decide_eq_false hi
                  have HK2 := Lib.hid (show R = false from by have hr := HK.out; rw [di] at hr; simpa using hr)
                  clear HK
                  go_wp2
                  go_ret
                  exact ⟨by rw [HRD.out, HK2.out]; first | rfl | simp, bw0⟩
                have di : decide (0 < (i.length : Int)) = true := decide_eq_true hi
                have NI1 := Lib.hid (NI.out wc HBW.out)
                have hr := HK.out; rw [di] at hr
                obtain ⟨sp, hsp⟩ : ∃ x, Sp.fmd i = x := ⟨_, rfl⟩; rw [hsp] at NI1 hr; clear hsp
                obtain ⟨ve, hve⟩ : ∃ x, Ve.fmd v = x := ⟨_, rfl⟩; rw [hve] at NVx hr; clear hve
                have HK2 := Lib.hid (show R = (sp && ve) from by simpa using hr); clear hr HK
                go_wp2_with fail
                refine NI1.out.mono ?_
                rintro e w2 ⟨rfl, b2⟩
                have bb2 := below_on HBW.out b2; have bw2 := below_on bw0 b2; have c6 := ((HC.out).later b2).cell (i := 6) rfl
                cases sp with
                | false =>
                  go_wp2
                  go_ret
                  exact ⟨by rw [HRD.out, HK2.out]; first | rfl | simp, bw2⟩
                | true =>
                  go_wp2_with fail
                  refine (NVx.out w2 bb2).mono ?_
                  rintro e w3 ⟨rfl, b3⟩
                  go_wp2
                  go_ret
                  exact ⟨by rw [HRD.out, HK2.out]; first | rfl | simp, below_on bw2 b3⟩
            by_cases k2 : x = 2
            · subst k2
              have hr := HRX.out; rw [if_neg (show ¬ (false = true) by decide), if_neg (show ¬ ((2 : Int) = 1) by decide), if_pos rfl] at hr; have HK := Lib.hid hr; clear hr HRX
              cases sb with
              | false =>
                go_wp2
                go_ret
                exact ⟨by rw [HRD.out, HK.out]; first | rfl | simp, bw0⟩
              | true =>
                cases rw_ with
                | false =>
                  go_wp2
                  go_ret
                  exact ⟨by rw [HRD.out, HK.out]; first | rfl | simp, bw0⟩
                | true =>
                  cases nn with
                  | false =>
                    go_wp2
                    go_ret
                    exact ⟨by rw [HRD.out, HK.out]; first | rfl | simp, bw0⟩
                  | true =>
                    go_wp2
                    go_ret
                    exact ⟨by rw [HRD.out, HK.out]; first | rfl | simp, bw0⟩
            by_cases k3 : x = 3
            · subst k3
              have hr := HRX.out; rw [if_neg (show ¬ (false = true) by decide), if_neg (show ¬ ((3 : Int) = 1) by decide), if_neg (show ¬ ((3 : Int) = 2) by decide), if_pos rfl] at hr; have HK := Lib.hid hr; clear hr HRX
              go_wp2_with fail
              go_loopw [6] (fun s6 wr => ∃ j : Nat, j ≤ n.length ∧ s6 = .int .i64 (j : Int) ∧ (∀ m, m < j → Nt.fmd (n.getD m zeroN) = true) ∧ Below W.heap.size W wr) (fun s6 _ => n.length - (intOf s6).toNat)
              case atStart => exact ⟨0, by omega, rfl, fun m hm => by omega, HBW.out⟩
              case round =>
                obtain ⟨j, hj, rfl, hall, hbr⟩ := hrel
                have HALL := Lib.hid hall; clear hall
                have c7 := (HB2.out wr hbr).cell (i := 7) rfl
                have br0 := below_on hb0 hbr
                clear c0
                by_cases hjn : j < n.length
                · have hd : decide ((j : Int) < (n.length : Int)) = true := decide_eq_true (by omega)
                  have hne : n ≠ [] := fun e => by rw [e] at hjn; simp at hjn
                  obtain ⟨b, off, hA, hcA⟩ := (H.out.hn.later hbr).lies hne
                  have hA : N = some ⟨b, off, none⟩ := hA
                  obtain ⟨S', E', B', V', cs', ce', cb', cv', e0, e1, e2, e3, hN⟩ := hcA j hjn
                  subst hA
                  obtain ⟨y, hy⟩ : ∃ y, n.getD j zeroN = y := ⟨_, rfl⟩
                  have hy2 : (({ k := k, f := f, t := t, s := s, q := q, it := i, vc := v, ns := n, bd := ⟨bo, bc, bn, bl⟩ } : Ms).ns).getD j zeroN = y := hy
                  rw [hy2] at e0 e1 e2 e3 hN
                  have hi1 : (0 : Int) ≤ (j : Int) := by omega
                  have hi2 : (j : Int) < (n.length : Int) := by omega
                  have NF := Lib.hid (nformed_any S' E' B' V' cs' ce' cb' cv' y wr hN)
                  obtain ⟨fb, hfb⟩ : ∃ fb, Nt.fmd y = fb := ⟨_, rfl⟩
                  rw [hfb] at NF
                  have HY := Lib.hid hy; have HFB := Lib.hid hfb
                  clear hcA hN hne hy hy2 hfb
                  go_wp2_with fail
                  refine NF.out.mono ?_
                  rintro e w5 ⟨rfl, b5⟩
                  clear e0 e1 e2 e3 c7
                  cases fb with
                  | true =>
                    go_wp2_with fail
                    go_roundw
                    case rel =>
                      refine ⟨j + 1, by omega, by first | rfl | (congr 1; omega), fun m hm => ?_, below_on hbr b5⟩
                      rcases Nat.lt_or_ge m j with h | h
                      · exact HALL.out m h
                      · obtain rfl : m = j := by omega
                        rw [HY.out, HFB.out]
                    case measure => simp [intOf]; omega
                  | false =>
                    have hno : n.all Nt.fmd = false := by
                      rw [List.all_eq_false]
                      refine ⟨n.getD j zeroN, ?_, (by rw [HY.out, HFB.out]; simp)⟩
                      rw [List.getD_eq_getElem?_getD, List.getElem?_eq_getElem hjn]; exact List.getElem_mem hjn
                    have HK2 := Lib.hid (show R = false from by have hr := HK.out; rw [hno] at hr; simpa using hr); clear hno HK
                    go_wp2
                    go_ret
                    exact ⟨by rw [HRD.out, HK2.out]; first | rfl | simp, below_on br0 b5⟩
                · obtain rfl : j = n.length := by omega
                  have hd : decide ((n.length : Int) < (n.length : Int)) = false := decide_eq_false (by omega)
                  have hyes : n.all Nt.fmd = true := by
                    rw [List.all_eq_true]
                    intro z hz
                    obtain ⟨m, hm, rfl⟩ := List.getElem_of_mem hz
                    have := HALL.out m hm
                    rwa [List.getD_eq_getElem?_getD, List.getElem?_eq_getElem hm] at this
                  have HK2 := Lib.hid (show R = (sb && nn) from by have hr := HK.out; rw [hyes] at hr; simpa using hr); clear hyes HK
                  cases sb with
                  | false =>
                    go_wp2
                    go_ret
                    exact ⟨by rw [HRD.out, HK2.out]; first | rfl | simp, br0⟩
                  | true =>
                    cases nn with
                    | false =>
                      go_wp2
                      go_ret
                      exact ⟨by rw [HRD.out, HK2.out]; first | rfl | simp, br0⟩
                    | true =>
                      go_wp2
                      go_ret
                      exact ⟨by rw [HRD.out, HK2.out]; first | rfl | simp, br0⟩
            by_cases k4 : x = 4
            · subst k4
              have hr := HRX.out; rw [if_neg (show ¬ (false = true) by decide), if_neg (show ¬ ((4 : Int) = 1) by decide), if_neg (show ¬ ((4 : Int) = 2) by decide), if_neg (show ¬ ((4 : Int) = 3) by decide), if_pos rfl] at hr
              obtain ⟨be, hbe⟩ : ∃ x, Wi.bempty ⟨bo, bc, bn, bl⟩ = x := ⟨_, rfl⟩
              have NE1 := NE.out wc; rw [hbe] at NE1 hr; unfold bdCells at NE1; simp only at NE1
              have NE2 := Lib.hid NE1; have HK := Lib.hid hr; clear hr HRX NE1 hbe
              have c8 := HC.out.cell (i := 8) rfl; have c9 := HC.out.cell (i := 9) rfl; have c10 := HC.out.cell (i := 10) rfl; have c11 := HC.out.cell (i := 11) rfl
              cases sb with
              | false =>
                go_wp2
                go_ret
                exact ⟨by rw [HRD.out, HK.out]; first | rfl | simp, bw0⟩
              | true =>
                cases rw_ with
                | false =>
                  go_wp2
                  go_ret
                  exact ⟨by rw [HRD.out, HK.out]; first | rfl | simp, bw0⟩
                | true =>
                  by_cases ho1 : 0 ≤ bo
                  case neg =>
                    have do1 : decide (0 ≤ bo) = false := decide_eq_false ho1
                    have HK2 := Lib.hid (show R = false from by have hr := HK.out; rw [do1] at hr; simpa using hr)
                    clear HK
                    go_wp2
                    go_ret
                    exact ⟨by rw [HRD.out, HK2.out]; first | rfl | simp, bw0⟩
                  have do1 : decide (0 ≤ bo) = true := decide_eq_true ho1
                  by_cases ho2 : bo ≤ 255
                  case neg =>
                    have do2 : decide (bo ≤ 255) = false := decide_eq_false ho2
                    have HK2 := Lib.hid (show R = false from by have hr := HK.out; rw [do2] at hr; simpa using hr)
                    clear HK
                    go_wp2
                    go_ret
                    exact ⟨by rw [HRD.out, HK2.out]; first | rfl | simp, bw0⟩
                  have do2 : decide (bo ≤ 255) = true := decide_eq_true ho2
                  have HK2 := Lib.hid (show R = be from by have hr := HK.out; rw [do1, do2] at hr; simpa using hr)
                  clear HK
                  go_wp2_with fail
                  refine NE2.out.mono ?_
                  rintro e w2 ⟨rfl, b2⟩
                  go_wp2
                  go_ret
                  exact ⟨by rw [HRD.out, HK2.out]; first | rfl | simp, below_on bw0 b2⟩
            by_cases k5 : x = 5
            · subst k5
              have hr := HRX.out; rw [if_neg (show ¬ (false = true) by decide), if_neg (show ¬ ((5 : Int) = 1) by decide), if_neg (show ¬ ((5 : Int) = 2) by decide), if_neg (show ¬ ((5 : Int) = 3) by decide), if_neg (show ¬ ((5 : Int) = 4) by decide), if_pos rfl] at hr
              obtain ⟨br, hbr⟩ : ∃ x, Wi.bright ⟨bo, bc, bn, bl⟩ = x := ⟨_, rfl⟩
              have NR1 := NR.out wc; rw [hbr] at NR1 hr; unfold bdCells at NR1; simp only at NR1
              have NR2 := Lib.hid NR1; have HK := Lib.hid hr; clear hr HRX NR1 hbr
              have c8 := HC.out.cell (i := 8) rfl; have c9 := HC.out.cell (i := 9) rfl; have c10 := HC.out.cell (i := 10) rfl; have c11 := HC.out.cell (i := 11) rfl
              cases sb with
              | false =>
                go_wp2
                go_ret
                exact ⟨by rw [HRD.out, HK.out]; first | rfl | simp, bw0⟩
              | true =>
                cases rw_ with
                | false =>
                  go_wp2
                  go_ret
                  exact ⟨by rw [HRD.out, HK.out]; first | rfl | simp, bw0⟩
                | true =>
                  go_wp2_with fail
                  refine NR2.out.mono ?_
                  rintro e w2 ⟨rfl, b2⟩
                  go_wp2
                  go_ret
                  exact ⟨by rw [HRD.out, HK.out]; first | rfl | simp, below_on bw0 b2⟩
            have hr := HRX.out; rw [if_neg (show ¬ (false = true) by decide), if_neg k1, if_neg k2, if_neg k3, if_neg k4, if_neg k5] at hr; have HK := Lib.hid hr; clear hr HRX
            have j1 : (x == 1) = false := beq_eq_false_iff_ne.2 k1
            have j2 : (x == 2) = false := beq_eq_false_iff_ne.2 k2
            have j3 : (x == 3) = false := beq_eq_false_iff_ne.2 k3
            have j4 : (x == 4) = false := beq_eq_false_iff_ne.2 k4
            have j5 : (x == 5) = false := beq_eq_false_iff_ne.2 k5
            go_wp2
            go_ret
            exact ⟨by rw [HRD.out, HK.out]; first | rfl | simp, bw0⟩

end Go.Proofs.Ytbbmngabbbehcaa
