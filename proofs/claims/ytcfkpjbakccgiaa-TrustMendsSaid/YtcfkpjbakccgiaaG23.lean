/-
  What note's isObject, formedWrites, Formed, Fits and News answer.
  What slices.IndexFunc and slices.DeleteFunc do at a list of writes, whatever the predicate, as long as that leaves all memory as it was.
  What slices.Clone answers of stamps and of writes; note's outside and its closure.
  What trust's Reach answers.
-/
import Derived.Test.YtcfkpjbakccgiaaG19
import Derived.Test.YtcfkpjbakccgiaaG15
import Derived.Test.YtcfkpjbakccgiaaG22
import Derived.Shelf.Abstract
import Derived.Test.YtcfkpjbakccgiaaG04
import Derived.Test.YtcfkpjbakccgiaaG08
import Derived.Lib.SliceRun
import Derived.Test.YtcfkpjbakccgiaaG21
import Derived.Test.YtcfkpjbakccgiaaG20
namespace Go.Proofs.Ytcfkpjbakccgiaa
open Go.RowKit Fb

set_option maxHeartbeats 800000 in
theorem nisObject_any (o : Int) (w : World) : Calls Try.prog 90 #[.int .i64 o] w (Says (.bool (decide (0 ≤ o ∧ o ≤ 255))) w) := by
  by_cases h0 : 0 ≤ o
  · have d0 : decide (0 ≤ o) = true := decide_eq_true h0
    by_cases h1 : o < 256
    · have d1 : decide (o < 256) = true := decide_eq_true h1
      rw [show decide (0 ≤ o ∧ o ≤ 255) = true from decide_eq_true (by omega)]
      go_enter Try.func90, Try.ntmps90
      go_wp2
      go_ret
      exact ⟨rfl, Below.refl _ _⟩
    · have d1 : decide (o < 256) = false := decide_eq_false h1
      rw [show decide (0 ≤ o ∧ o ≤ 255) = false from decide_eq_false (by omega)]
      go_enter Try.func90, Try.ntmps90
      go_wp2
      go_ret
      exact ⟨rfl, Below.refl _ _⟩
  · have d0 : decide (0 ≤ o) = false := decide_eq_false h0
    rw [show decide (0 ≤ o ∧ o ≤ 255) = false from decide_eq_false (by omega)]
    go_enter Try.func90, Try.ntmps90
    go_wp2
    go_ret
    exact ⟨rfl, Below.refl _ _⟩

namespace Nt
/-- The object of the last of the first k writes; -1 if there is none. -/
def lastO (l : List Wr) : Nat → Int
  | 0 => -1
  | k + 1 => obj l k
end Nt

set_option maxRecDepth 100000 in
set_option maxHeartbeats 6400000 in
theorem nformedWrites_any (S E B V : Option Addr) (cs ce cb cv : Nat) (n : Note) (w : World) (h1 : NoteAt w S E B V cs ce cb cv n) :
    Calls Try.prog 75 #[.agg (noteCells S E B V cs ce cb cv n)] w (Says (.bool (Nt.wsOk n)) w) := by
  obtain ⟨W, hW⟩ : ∃ W, w.alloc (.cells (noteCells S E B V cs ce cb cv n) 38) = W := ⟨_, rfl⟩
  have hb0 : Below w.heap.size w W := by rw [← hW]; exact below_new (Below.refl _ _) _
  have hB0 : Blk W w.heap.size 38 (noteCells S E B V cs ce cb cv n) := by rw [← hW]; exact Blk.new w _ _
  obtain ⟨c0, c1, c2, c3⟩ := note_cells hB0
  have p3 := c3
  rw [← hW] at p3
  have HN := Lib.hid (h1.later hb0)
  have NO := Lib.hid (fun wx o => nisObject_any o wx)
  have NH := Lib.hid (fun wx (hb : Below W.heap.size W wx) o => sphas_any B cb n.b o wx (HN.out.hb.later hb))
  have NE := Lib.hid (fun wx (hb : Below W.heap.size W wx) x y => has_any E ce n.e x y wx (HN.out.he.later hb))
  have HW := Lib.hid hW
  clear hW hB0 h1
  have bb0 := Below.refl W.heap.size W
  have hlenw := HN.out.hv.len
  go_enter Try.func75, Try.ntmps75
  go_wp2_with fail
  rw [HW.out]
  go_loopw [3, 9] (fun s3 s9 wr => ∃ k : Nat, k ≤ n.ws.length ∧ s9 = .int .i64 (k : Int) ∧ s3 = .int .i64 (Nt.lastO n.ws k) ∧ Nt.wsTo n k ∧ Below W.heap.size W wr) (fun _ s9 _ => n.ws.length - (intOf s9).toNat)
  case atStart => exact ⟨0, Nat.zero_le _, rfl, rfl, fun j hj => by omega, bb0⟩
  case round =>
    obtain ⟨k, hk, rfl, rfl, hall, hbw⟩ := hrel
    have HALL := Lib.hid hall
    have g1 := cell_later hbw c1
    have g2 := cell_later hbw c2
    clear hall p3
    by_cases hlt : k < n.ws.length
    · have hne : n.ws ≠ [] := fun e => by rw [e] at hlt; simp at hlt
      obtain ⟨b, off, hA, hcA⟩ := (HN.out.hv.later hbw).at hne
      subst hA
      obtain ⟨e0, e1, e2, e3⟩ := hcA k hlt
      have hi0 : (0 : Int) ≤ (k : Int) := by omega
      have hi1 : (k : Int) < (n.ws.length : Int) := by omega
      have hno := @Nt.wsOk_no n k hlt
      have hnx : hasOf n.e (n.ws.getD k Nt.zeroW).1 (n.ws.getD k Nt.zeroW).2.1 = true → (0 ≤ Nt.obj n.ws k ∧ Nt.obj n.ws k ≤ 255) → inOf n.b (Nt.obj n.ws k) = false → (0 < k → Nt.obj n.ws (k - 1) < Nt.obj n.ws k) → Nt.wsTo n (k + 1) := fun q1 q2 q3 q4 j hj => by
        by_cases e : j = k
        · subst e; exact ⟨q1, q2, q3, q4⟩
        · exact HALL.out j (by omega)
      have hob : (n.ws.getD k Nt.zeroW).2.2.1 = Nt.obj n.ws k := rfl
      rw [hob] at e2
      obtain ⟨ln, hln⟩ : ∃ ln, Nt.lastO n.ws k = ln := ⟨_, rfl⟩
      have hprev : 0 < k → Nt.obj n.ws (k - 1) = ln := fun h => by
        cases k with
        | zero => omega
        | succ m => rw [← hln]; rfl
      have hz : k = 0 → ln = -1 := fun h => by subst h; rw [← hln]; rfl
      have hnext : Nt.lastO n.ws (k + 1) = Nt.obj n.ws k := rfl
      rw [hln]
      obtain ⟨x, hx⟩ : ∃ x, (n.ws.getD k Nt.zeroW).1 = x := ⟨_, rfl⟩
      obtain ⟨y, hy⟩ : ∃ y, (n.ws.getD k Nt.zeroW).2.1 = y := ⟨_, rfl⟩
      obtain ⟨gn, hgn⟩ : ∃ gn, (n.ws.getD k Nt.zeroW).2.2.2 = gn := ⟨_, rfl⟩
      obtain ⟨o, ho⟩ : ∃ o, Nt.obj n.ws k = o := ⟨_, rfl⟩
      rw [hx] at e0 hno hnx
      rw [hy] at e1 hno hnx
      rw [hgn] at e3
      rw [ho] at e2 hno hnx hnext
      obtain ⟨hs, hhs⟩ : ∃ hs, hasOf n.e x y = hs := ⟨_, rfl⟩
      obtain ⟨ib, hib⟩ : ∃ ib, inOf n.b o = ib := ⟨_, rfl⟩
      obtain ⟨ob, hobb⟩ : ∃ ob, decide (0 ≤ o ∧ o ≤ 255) = ob := ⟨_, rfl⟩
      obtain ⟨W1, hW1⟩ : ∃ W1, wr.alloc (.cells #[.int .i64 x, .int .i64 y, .int .i64 o, .bool gn] 102) = W1 := ⟨_, rfl⟩
      have hbn : Below wr.heap.size wr W1 := by rw [← hW1]; exact below_new (Below.refl _ _) _
      have hB1 : Blk W1 wr.heap.size 102 #[.int .i64 x, .int .i64 y, .int .i64 o, .bool gn] := by rw [← hW1]; exact Blk.new wr _ _
      have hbw1 := below_on hbw hbn
      have q0 := hB1.cell (i := 0) rfl
      have q1 := hB1.cell (i := 1) rfl
      have q2 := hB1.cell (i := 2) rfl
      have m1 := cell_later hbn g1
      have m2 := cell_later hbn g2
      have cH := fun wx (hb : Below W1.heap.size W1 wx) => NE.out wx (below_on hbw1 hb) x y
      have cI := fun wx (hb : Below W1.heap.size W1 wx) => NH.out wx (below_on hbw1 hb) o
      have cO := fun wx => NO.out wx o
      rw [hhs] at cH hno hnx
      rw [hib] at cI hno hnx
      rw [hobb] at cO
      have CH := Lib.hid cH
      have CI := Lib.hid cI
      have CO := Lib.hid cO
      have HNo := Lib.hid hno
      have NX := Lib.hid hnx
      have PV := Lib.hid hprev
      have HZ := Lib.hid hz
      have HNT := Lib.hid hnext
      have HW1 := Lib.hid hW1
      have OB := Lib.hid hobb
      have B1 := Lib.hid hB1
      clear hcA hno hnx hprev cH cI cO hW1 hob hx hy hgn ho hhs hib hln hz hnext hobb hB1
      have hcs : (decide (o ≤ ln) = true ∧ o ≤ ln) ∨ (decide (o ≤ ln) = false ∧ ¬ o ≤ ln ∧ ob = false) ∨ (decide (o ≤ ln) = false ∧ ¬ o ≤ ln ∧ ob = true ∧ ib = true) ∨ (decide (o ≤ ln) = false ∧ ¬ o ≤ ln ∧ ob = true ∧ ib = false ∧ hs = false) ∨ (decide (o ≤ ln) = false ∧ ¬ o ≤ ln ∧ ob = true ∧ ib = false ∧ hs = true) := by
        by_cases h1 : o ≤ ln
        · exact .inl ⟨decide_eq_true h1, h1⟩
        · refine .inr ?_
          have d := decide_eq_false h1
          cases ob
          · exact .inl ⟨d, h1, rfl⟩
          · cases ib
            · cases hs
              · exact .inr (.inr (.inl ⟨d, h1, rfl, rfl, rfl⟩))
              · exact .inr (.inr (.inr ⟨d, h1, rfl, rfl, rfl⟩))
            · exact .inr (.inl ⟨d, h1, rfl, rfl⟩)
      rcases hcs with ⟨d, hd⟩ | ⟨d, hd, rfl⟩ | ⟨d, hd, rfl, rfl⟩ | ⟨d, hd, rfl, rfl, rfl⟩ | ⟨d, hd, rfl, rfl, rfl⟩
      · have HNO := Lib.hid (HNo.out (fun h => by
          have h4 := h.2.2.2
          by_cases hk0 : k = 0
          · have := HZ.out hk0; have := h.2.1.1; omega
          · have := h4 (by omega); rw [PV.out (by omega)] at this; omega))
        go_wp2_with fail
        have ba0 := Below.refl W1.heap.size W1
        skip
        go_ret
        exact ⟨by rw [HNO.out]; rfl, below_on hb0 (by rw [HW1.out]; exact hbw1)⟩
      · have HNO := Lib.hid (HNo.out (fun h => by have := of_decide_eq_false OB.out; exact this h.2.1))
        go_wp2_with fail
        rw [HW1.out]
        have ba0 := Below.refl W1.heap.size W1
        refine (CO.out _).mono ?_
        rintro e w1 ⟨rfl, b1⟩
        have ba1 := below_on ba0 b1
        have q0_1 := cell_later ba1 q0
        have q1_1 := cell_later ba1 q1
        have q2_1 := cell_later ba1 q2
        have m1_1 := cell_later ba1 m1
        have m2_1 := cell_later ba1 m2
        go_wp2
        go_ret
        exact ⟨by rw [HNO.out]; rfl, below_on hb0 (below_on hbw1 ba1)⟩
      · have HNO := Lib.hid (HNo.out (fun h => by have := h.2.2.1; cases this))
        go_wp2_with fail
        rw [HW1.out]
        have ba0 := Below.refl W1.heap.size W1
        refine (CO.out _).mono ?_
        rintro e w1 ⟨rfl, b1⟩
        have ba1 := below_on ba0 b1
        have q0_1 := cell_later ba1 q0
        have q1_1 := cell_later ba1 q1
        have q2_1 := cell_later ba1 q2
        have m1_1 := cell_later ba1 m1
        have m2_1 := cell_later ba1 m2
        go_wp2_with fail
        refine (CI.out _ ba1).mono ?_
        rintro e w2 ⟨rfl, b2⟩
        have ba2 := below_on ba1 b2
        have q0_2 := cell_later ba2 q0
        have q1_2 := cell_later ba2 q1
        have q2_2 := cell_later ba2 q2
        have m1_2 := cell_later ba2 m1
        have m2_2 := cell_later ba2 m2
        go_wp2
        go_ret
        exact ⟨by rw [HNO.out]; rfl, below_on hb0 (below_on hbw1 ba2)⟩
      · have HNO := Lib.hid (HNo.out (fun h => by have := h.1; cases this))
        go_wp2_with fail
        rw [HW1.out]
        have ba0 := Below.refl W1.heap.size W1
        refine (CO.out _).mono ?_
        rintro e w1 ⟨rfl, b1⟩
        have ba1 := below_on ba0 b1
        have q0_1 := cell_later ba1 q0
        have q1_1 := cell_later ba1 q1
        have q2_1 := cell_later ba1 q2
        have m1_1 := cell_later ba1 m1
        have m2_1 := cell_later ba1 m2
        go_wp2_with fail
        refine (CI.out _ ba1).mono ?_
        rintro e w2 ⟨rfl, b2⟩
        have ba2 := below_on ba1 b2
        have q0_2 := cell_later ba2 q0
        have q1_2 := cell_later ba2 q1
        have q2_2 := cell_later ba2 q2
        have m1_2 := cell_later ba2 m1
        have m2_2 := cell_later ba2 m2
        go_wp2_with fail
        refine (CH.out _ ba2).mono ?_
        rintro e w3 ⟨rfl, b3⟩
        have ba3 := below_on ba2 b3
        have q0_3 := cell_later ba3 q0
        have q1_3 := cell_later ba3 q1
        have q2_3 := cell_later ba3 q2
        have m1_3 := cell_later ba3 m1
        have m2_3 := cell_later ba3 m2
        go_wp2
        go_ret
        exact ⟨by rw [HNO.out]; rfl, below_on hb0 (below_on hbw1 ba3)⟩
      · have HT := Lib.hid (NX.out rfl (of_decide_eq_true OB.out) rfl (fun h => by rw [PV.out h]; omega))
        go_wp2_with fail
        rw [HW1.out]
        have ba0 := Below.refl W1.heap.size W1
        refine (CO.out _).mono ?_
        rintro e w1 ⟨rfl, b1⟩
        have ba1 := below_on ba0 b1
        have q0_1 := cell_later ba1 q0
        have q1_1 := cell_later ba1 q1
        have q2_1 := cell_later ba1 q2
        have m1_1 := cell_later ba1 m1
        have m2_1 := cell_later ba1 m2
        go_wp2_with fail
        refine (CI.out _ ba1).mono ?_
        rintro e w2 ⟨rfl, b2⟩
        have ba2 := below_on ba1 b2
        have q0_2 := cell_later ba2 q0
        have q1_2 := cell_later ba2 q1
        have q2_2 := cell_later ba2 q2
        have m1_2 := cell_later ba2 m1
        have m2_2 := cell_later ba2 m2
        go_wp2_with fail
        refine (CH.out _ ba2).mono ?_
        rintro e w3 ⟨rfl, b3⟩
        have ba3 := below_on ba2 b3
        have q0_3 := cell_later ba3 q0
        have q1_3 := cell_later ba3 q1
        have q2_3 := cell_later ba3 q2
        have m1_3 := cell_later ba3 m1
        have m2_3 := cell_later ba3 m2
        go_wp2_with fail
        go_roundw
        case rel => exact ⟨k + 1, by omega, by go_num, by rw [HNT.out], HT.out, below_on hbw1 ba3⟩
        case measure => simp [intOf]; omega
    · have hkl : k = n.ws.length := by omega
      have hok : Nt.wsOk n = true := (Nt.wsOk_iff n).2 (by rw [← hkl]; exact HALL.out)
      have HOK := Lib.hid hok
      clear hok
      subst hkl
      go_wp2
      go_ret
      exact ⟨by rw [HOK.out]; rfl, below_on hb0 hbw⟩

set_option maxRecDepth 100000 in
set_option maxHeartbeats 6400000 in
theorem dnformed_any (S E B V : Option Addr) (cs ce cb cv : Nat) (n : Note) (w : World) (h1 : NoteAt w S E B V cs ce cb cv n) :
    Calls Try.prog 49 #[.agg (noteCells S E B V cs ce cb cv n)] w (Says (.bool (Nt.fmd n)) w) := by
  obtain ⟨W, hW⟩ : ∃ W, w.alloc (.cells (noteCells S E B V cs ce cb cv n) 38) = W := ⟨_, rfl⟩
  have hb0 : Below w.heap.size w W := by rw [← hW]; exact below_new (Below.refl _ _) _
  have hB0 : Blk W w.heap.size 38 (noteCells S E B V cs ce cb cv n) := by rw [← hW]; exact Blk.new w _ _
  obtain ⟨c0, c1, c2, c3⟩ := note_cells hB0
  have p0 := c0
  rw [← hW] at p0
  have HN := Lib.hid (h1.later hb0)
  have HR := Lib.hid (show Nt.fmd n = (Ve.fmd n.s && (Ve.fmd n.e && (Ve.cov (Ve.cnt n.e) (Ve.cnt n.s) && (Sp.fmd n.b && Nt.wsOk n)))) from rfl)
  have N0 := Lib.hid (fun wx (hb : Below W.heap.size W wx) => formed_any S cs n.s wx (HN.out.hs.later hb))
  have N1 := Lib.hid (fun wx (hb : Below W.heap.size W wx) => formed_any E ce n.e wx (HN.out.he.later hb))
  have N2 := Lib.hid (fun wx (hb : Below W.heap.size W wx) => covers_any E S ce cs n.e n.s wx (HN.out.he.later hb) (HN.out.hs.later hb))
  have N3 := Lib.hid (fun wx (hb : Below W.heap.size W wx) => spformed_any B cb n.b wx (HN.out.hb.later hb))
  have N4 := Lib.hid (fun wx (hb : Below W.heap.size W wx) => (show Calls Try.prog 75 #[.agg #[.slice S n.s.length cs, .slice E n.e.length ce, .slice B n.b.length cb, .slice V n.ws.length cv]] wx (Says (.bool (Nt.wsOk n)) wx) from nformedWrites_any S E B V cs ce cb cv n wx (HN.out.later hb)))
  obtain ⟨x0, hx0⟩ : ∃ x, Ve.fmd n.s = x := ⟨_, rfl⟩
  obtain ⟨x1, hx1⟩ : ∃ x, Ve.fmd n.e = x := ⟨_, rfl⟩
  obtain ⟨x2, hx2⟩ : ∃ x, Ve.cov (Ve.cnt n.e) (Ve.cnt n.s) = x := ⟨_, rfl⟩
  obtain ⟨x3, hx3⟩ : ∃ x, Sp.fmd n.b = x := ⟨_, rfl⟩
  obtain ⟨x4, hx4⟩ : ∃ x, Nt.wsOk n = x := ⟨_, rfl⟩
  rw [hx0] at N0 HR
  rw [hx1] at N1 HR
  rw [hx2] at N2 HR
  rw [hx3] at N3 HR
  rw [hx4] at N4 HR
  have HW := Lib.hid hW
  clear hW hx0 hx1 hx2 hx3 hx4 hB0 h1
  have bb0 := Below.refl W.heap.size W
  cases x0 with
  | false =>
    go_enter Try.func49, Try.ntmps49
    go_wp2_with fail
    rw [HW.out]
    refine (N0.out _ bb0).mono ?_
    rintro e w1 ⟨rfl, b1⟩
    have bb1 := below_on bb0 b1
    have c0_1 := cell_later bb1 c0
    have c1_1 := cell_later bb1 c1
    have c2_1 := cell_later bb1 c2
    have c3_1 := cell_later bb1 c3
    clear p0
    go_wp2
    go_ret
    exact ⟨by rw [HR.out]; rfl, below_on hb0 bb1⟩
  | true =>
  cases x1 with
  | false =>
    go_enter Try.func49, Try.ntmps49
    go_wp2_with fail
    rw [HW.out]
    refine (N0.out _ bb0).mono ?_
    rintro e w1 ⟨rfl, b1⟩
    have bb1 := below_on bb0 b1
    have c0_1 := cell_later bb1 c0
    have c1_1 := cell_later bb1 c1
    have c2_1 := cell_later bb1 c2
    have c3_1 := cell_later bb1 c3
    clear p0
    go_wp2_with fail
    refine (N1.out _ bb1).mono ?_
    rintro e w2 ⟨rfl, b2⟩
    have bb2 := below_on bb1 b2
    have c0_2 := cell_later bb2 c0
    have c1_2 := cell_later bb2 c1
    have c2_2 := cell_later bb2 c2
    have c3_2 := cell_later bb2 c3
    clear c0_1 c1_1 c2_1 c3_1
    go_wp2
    go_ret
    exact ⟨by rw [HR.out]; rfl, below_on hb0 bb2⟩
  | true =>
  cases x2 with
  | false =>
    go_enter Try.func49, Try.ntmps49
    go_wp2_with fail
    rw [HW.out]
    refine (N0.out _ bb0).mono ?_
    rintro e w1 ⟨rfl, b1⟩
    have bb1 := below_on bb0 b1
    have c0_1 := cell_later bb1 c0
    have c1_1 := cell_later bb1 c1
    have c2_1 := cell_later bb1 c2
    have c3_1 := cell_later bb1 c3
    clear p0
    go_wp2_with fail
    refine (N1.out _ bb1).mono ?_
    rintro e w2 ⟨rfl, b2⟩
    have bb2 := below_on bb1 b2
    have c0_2 := cell_later bb2 c0
    have c1_2 := cell_later bb2 c1
    have c2_2 := cell_later bb2 c2
    have c3_2 := cell_later bb2 c3
    clear c0_1 c1_1 c2_1 c3_1
    go_wp2_with fail
    refine (N2.out _ bb2).mono ?_
    rintro e w3 ⟨rfl, b3⟩
    have bb3 := below_on bb2 b3
    have c0_3 := cell_later bb3 c0
    have c1_3 := cell_later bb3 c1
    have c2_3 := cell_later bb3 c2
    have c3_3 := cell_later bb3 c3
    clear c0_2 c1_2 c2_2 c3_2
    go_wp2
    go_ret
    exact ⟨by rw [HR.out]; rfl, below_on hb0 bb3⟩
  | true =>
  cases x3 with
  | false =>
    go_enter Try.func49, Try.ntmps49
    go_wp2_with fail
    rw [HW.out]
    refine (N0.out _ bb0).mono ?_
    rintro e w1 ⟨rfl, b1⟩
    have bb1 := below_on bb0 b1
    have c0_1 := cell_later bb1 c0
    have c1_1 := cell_later bb1 c1
    have c2_1 := cell_later bb1 c2
    have c3_1 := cell_later bb1 c3
    clear p0
    go_wp2_with fail
    refine (N1.out _ bb1).mono ?_
    rintro e w2 ⟨rfl, b2⟩
    have bb2 := below_on bb1 b2
    have c0_2 := cell_later bb2 c0
    have c1_2 := cell_later bb2 c1
    have c2_2 := cell_later bb2 c2
    have c3_2 := cell_later bb2 c3
    clear c0_1 c1_1 c2_1 c3_1
    go_wp2_with fail
    refine (N2.out _ bb2).mono ?_
    rintro e w3 ⟨rfl, b3⟩
    have bb3 := below_on bb2 b3
    have c0_3 := cell_later bb3 c0
    have c1_3 := cell_later bb3 c1
    have c2_3 := cell_later bb3 c2
    have c3_3 := cell_later bb3 c3
    clear c0_2 c1_2 c2_2 c3_2
    go_wp2_with fail
    refine (N3.out _ bb3).mono ?_
    rintro e w4 ⟨rfl, b4⟩
    have bb4 := below_on bb3 b4
    have c0_4 := cell_later bb4 c0
    have c1_4 := cell_later bb4 c1
    have c2_4 := cell_later bb4 c2
    have c3_4 := cell_later bb4 c3
    clear c0_3 c1_3 c2_3 c3_3
    go_wp2
    go_ret
    exact ⟨by rw [HR.out]; rfl, below_on hb0 bb4⟩
  | true =>
  go_enter Try.func49, Try.ntmps49
  go_wp2_with fail
  rw [HW.out]
  refine (N0.out _ bb0).mono ?_
  rintro e w1 ⟨rfl, b1⟩
  have bb1 := below_on bb0 b1
  have c0_1 := cell_later bb1 c0
  have c1_1 := cell_later bb1 c1
  have c2_1 := cell_later bb1 c2
  have c3_1 := cell_later bb1 c3
  clear p0
  go_wp2_with fail
  refine (N1.out _ bb1).mono ?_
  rintro e w2 ⟨rfl, b2⟩
  have bb2 := below_on bb1 b2
  have c0_2 := cell_later bb2 c0
  have c1_2 := cell_later bb2 c1
  have c2_2 := cell_later bb2 c2
  have c3_2 := cell_later bb2 c3
  clear c0_1 c1_1 c2_1 c3_1
  go_wp2_with fail
  refine (N2.out _ bb2).mono ?_
  rintro e w3 ⟨rfl, b3⟩
  have bb3 := below_on bb2 b3
  have c0_3 := cell_later bb3 c0
  have c1_3 := cell_later bb3 c1
  have c2_3 := cell_later bb3 c2
  have c3_3 := cell_later bb3 c3
  clear c0_2 c1_2 c2_2 c3_2
  go_wp2_with fail
  refine (N3.out _ bb3).mono ?_
  rintro e w4 ⟨rfl, b4⟩
  have bb4 := below_on bb3 b4
  have c0_4 := cell_later bb4 c0
  have c1_4 := cell_later bb4 c1
  have c2_4 := cell_later bb4 c2
  have c3_4 := cell_later bb4 c3
  clear c0_3 c1_3 c2_3 c3_3
  go_wp2_with fail
  refine (N4.out _ bb4).mono ?_
  rintro e w5 ⟨rfl, b5⟩
  have bb5 := below_on bb4 b5
  have c0_5 := cell_later bb5 c0
  have c1_5 := cell_later bb5 c1
  have c2_5 := cell_later bb5 c2
  have c3_5 := cell_later bb5 c3
  clear c0_4 c1_4 c2_4 c3_4
  go_wp2
  go_ret
  exact ⟨by rw [HR.out]; rfl, below_on hb0 bb5⟩

set_option maxHeartbeats 800000 in
theorem dnfits_any (S E B V A : Option Addr) (cs ce cb cv c : Nat) (n : Note) (l : List (Int × Int)) (w : World) (h1 : NoteAt w S E B V cs ce cb cv n) (h2 : OneL w A c l) :
    Calls Try.prog 50 #[.agg (noteCells S E B V cs ce cb cv n), .slice A l.length c] w (Says (.bool (Ve.cov (Ve.cnt l) (Ve.cnt n.s))) w) := by
  obtain ⟨W, hW⟩ : ∃ W, w.alloc (.cells (noteCells S E B V cs ce cb cv n) 38) = W := ⟨_, rfl⟩
  have hb0 : Below w.heap.size w W := by rw [← hW]; exact below_new (Below.refl _ _) _
  have hB0 : Blk W w.heap.size 38 (noteCells S E B V cs ce cb cv n) := by rw [← hW]; exact Blk.new w _ _
  obtain ⟨c0, c1, c2, c3⟩ := note_cells hB0
  have hO := h2.later hb0
  have hS := h1.hs.later hb0
  have N0 := Lib.hid (covers_any A S c cs l n.s W hO hS)
  have p0 := c0
  rw [← hW] at p0
  have HW := Lib.hid hW
  clear hW hB0 h1 h2 hO hS
  go_enter Try.func50, Try.ntmps50
  go_wp2_with fail
  rw [HW.out]
  refine N0.out.mono ?_
  rintro e w1 ⟨rfl, b1⟩
  go_wp2
  go_ret
  exact ⟨rfl, below_on hb0 b1⟩

end Go.Proofs.Ytcfkpjbakccgiaa
namespace Go.Proofs.Ytcfkpjbakccgiaa
open Go.RowKit

/-- A function value that says of each element whether p holds of it, in every world that is as wb was below. -/
def PredW (wb : World) (fn : Nat) (lb : Array Value) (p : Wr → Bool) : Prop := ∀ (W : World) (x : Wr), Below wb.heap.size wb W → Calls Try.prog fn (#[.agg #[.int .i64 x.1, .int .i64 x.2.1, .int .i64 x.2.2.1, .bool x.2.2.2]] ++ lb) W fun e w' => e = .returned (.bool (p x)) ∧ Below W.heap.size W w'
theorem PredW.later {wb w' : World} {fn : Nat} {lb : Array Value} {p : Wr → Bool} (h : PredW wb fn lb p) (hb : Below wb.heap.size wb w') : PredW w' fn lb p := fun W x hW => h W x (below_on hb hW)

theorem zeroCellsW (m : Nat) : (Builtin.zeroCells (Value.cells (.agg #[.int .i64 0, .int .i64 0, .int .i64 0, .bool false])) m).toList.length = m * 4 ∧ ∀ u ∈ (Builtin.zeroCells (Value.cells (.agg #[.int .i64 0, .int .i64 0, .int .i64 0, .bool false])) m).toList, u.oneCell' = true := by
  refine ⟨by rw [Array.length_toList, size_zeroCells]; rfl, fun u hu => ?_⟩
  unfold Builtin.zeroCells at hu
  simp [Value.cells] at hu
  obtain ⟨a, _, rfl⟩ := hu
  have h4 : a % 4 < 4 := Nat.mod_lt _ (by omega)
  rcases (show a % 4 = 0 ∨ a % 4 = 1 ∨ a % 4 = 2 ∨ a % 4 = 3 from by omega) with h | h | h | h <;> simp [h, Value.oneCell']


end Go.Proofs.Ytcfkpjbakccgiaa
namespace Go.Proofs.Ytcfkpjbakccgiaa
open Go.RowKit Fb

/-- A list of writes is answered, in memory of the call's own; what was there before is as it was. -/
def GivesW (l : List Wr) (w : World) (e : Ending) (w' : World) : Prop :=
  ∃ v, e = .returned v ∧ w'.ownsRow w.heap.size 102 4 v l.length (Nt.wrCells l) ∧ Below w.heap.size w w'
/-- The same, wherever it lies. -/
def AnsW (l : List Wr) (w : World) (e : Ending) (w' : World) : Prop := ∃ A c, e = .returned (.slice A l.length c) ∧ OneW w' A c l ∧ Below w.heap.size w w'
theorem GivesW.one {l : List Wr} {w w' : World} {e : Ending} (h : GivesW l w e w') : AnsW l w e w' := by
  obtain ⟨v, rfl, ho, hb⟩ := h
  obtain ⟨A, c, rfl, h1⟩ := OneW.of_own ho
  exact ⟨A, c, rfl, h1, hb⟩

set_option maxHeartbeats 1600000 in
theorem cloneS_any (A : Option Addr) (c : Nat) (l : List (Int × Int)) (w : World) (hl : l.length * 16 ≤ 140737488355328) (h : OneL w A c l) :
    Calls Try.prog 44 #[.slice A l.length c] w (Gives l w) := by
  obtain ⟨i0, hI, hz0, hz1, hz2⟩ := info_parts infoSt
  cases A with
  | none =>
    obtain ⟨h1, h2⟩ := h.2.2.1 rfl
    have hl0 : l = [] := List.eq_nil_of_length_eq_zero h1
    subst hl0
    subst h2
    clear h
    have hq := Lib.run_eql_slice_nil (P := Try.prog) w 23 53 none 0 0 0 0 Try.underlying23
    go_enter Try.func44, Try.ntmps44
    go_wp2
    go_ret
    exact ⟨_, rfl, ⟨rfl, .inl ⟨rfl, rfl⟩⟩, Below.refl _ _⟩
  | some a =>
    have hq := Lib.run_eql_slice_nil (P := Try.prog) w 23 53 (some a) l.length c 0 0 Try.underlying23
    have HL := Lib.hid (h.2.2.2.alloc (.cells #[] 53))
    have HB := Lib.hid (Blk.new w 53 #[])
    have b0 := below_new (Below.refl w.heap.size w) (.cells #[] 53)
    have hlen := h.len
    clear h
    go_enter Try.func44, Try.ntmps44
    go_wp2_with (at_builtin; refine wpList_append_fresh _ rfl _ _ 23 rfl w.heap.size w.heap.size 53 i0 (.agg #[.int .i64 0, .int .i64 0]) 2 16 Try.underlying23 hI hz0 hz1 hz2 rfl (by decide) rfl HB.out (Nat.le_refl _) (some a) l.length c (fun h => by cases h) (stCells l) rfl (stCells_length l) HL.out (stCells_one l) (by unfold maxLen; omega) hl ?_)
    intro v' w' ho hb
    have HO := Lib.hid ho
    clear ho
    go_wp2
    go_ret
    exact ⟨v', rfl, HO.out, below_on b0 (by rw [show (w.alloc (.cells #[] 53)).heap.size = w.heap.size + 1 from by simp]; exact hb)⟩

end Go.Proofs.Ytcfkpjbakccgiaa
namespace Go.Proofs.Ytcfkpjbakccgiaa
open Go.RowKit Go.Shelf Fb
attribute [local go_sem] Oper.semAt_some

theorem all_zn (L : List Zc) (R : Zc) : (pcc R 255 0 L).map Zc.zn = Tr.all (L.map Zc.zn) R.l := pcc_zn R 255 L 0
theorem fmd_bounds {L : List Zc} (h : Tr.fmd (L.map Zc.zn) = true) : ∀ z ∈ L, 0 ≤ z.lo ∧ z.lo ≤ 255 ∧ 0 ≤ z.hi ∧ z.hi ≤ 255 := fun z hz => by
  obtain ⟨k, hk, rfl⟩ := List.mem_iff_getElem.1 hz
  have h1 := ((Tr.fmd_iff _).1 h k (by rw [List.length_map]; exact hk)).1
  rw [zn_getD (List.getElem?_eq_getElem hk)] at h1
  have h2 : 0 ≤ (L[k]).lo ∧ (L[k]).lo ≤ (L[k]).hi ∧ (L[k]).hi ≤ 255 := h1
  omega
/-- The pieces of all objects: what each is. -/
theorem all_piece {L : List Zc} (h : Tr.fmd (L.map Zc.zn) = true) {R : Zc} (hR : Ve.fmd R.l = true) (k : Nat) : 0 ≤ ((pcc R 255 0 L).getD k Zc.none).lo ∧ ((pcc R 255 0 L).getD k Zc.none).lo ≤ ((pcc R 255 0 L).getD k Zc.none).hi ∧ ((pcc R 255 0 L).getD k Zc.none).hi ≤ 255 ∧ Ve.fmd ((pcc R 255 0 L).getD k Zc.none).l = true ∧
    ∀ (w : World), (∀ z ∈ L, OneL w z.X z.c z.l) → OneL w R.X R.c R.l → OneL w ((pcc R 255 0 L).getD k Zc.none).X ((pcc R 255 0 L).getD k Zc.none).c ((pcc R 255 0 L).getD k Zc.none).l := by
  rw [List.getD_eq_getElem?_getD]
  cases hk : (pcc R 255 0 L)[k]? with
  | none => exact ⟨Int.le_refl _, Int.le_refl _, by show (0 : Int) ≤ 255; omega, by decide, fun w _ _ => OneL.nil⟩
  | some z =>
    have hm := List.mem_of_getElem? hk
    have hz : z.zn ∈ Tr.all (L.map Zc.zn) R.l := by rw [← all_zn]; exact List.mem_map.2 ⟨z, hm, rfl⟩
    obtain ⟨t1, t2, t3, -⟩ := Tr.tiles_of _ _ _ (Tr.all_tiles h R.l) _ hz
    have t1 : ((0 : Nat) : Int) ≤ z.lo := t1
    have t2 : z.lo ≤ z.hi := t2
    have t3 : z.hi < ((256 : Nat) : Int) := t3
    refine ⟨by show 0 ≤ z.lo; omega, t2, by show z.hi ≤ 255; omega, ?_, fun w h1 h2 => ?_⟩
    · show Ve.fmd z.l = true
      rcases pcc_mem R 255 L 0 z hm with hl | ⟨-, -, hl⟩
      · obtain ⟨j, hj, rfl⟩ := List.mem_iff_getElem.1 hl
        have h1 := ((Tr.fmd_iff _).1 h j (by rw [List.length_map]; exact hj)).2.1
        rw [zn_getD (List.getElem?_eq_getElem hj)] at h1
        exact h1
      · rw [hl]; exact hR
    · show OneL w z.X z.c z.l
      rcases pcc_mem R 255 L 0 z hm with hl | ⟨e1, e2, e3⟩
      · exact h1 z hl
      · rw [e1, e2, e3]; exact h2
theorem all_short {L : List Zc} (h : Tr.fmd (L.map Zc.zn) = true) (R : Zc) : (pcc R 255 0 L).length ≤ 513 := by
  have hl := Tr.fmd_len h
  rw [List.length_map] at hl
  have : ∀ (L : List Zc) (k : Int), (pcc R 255 k L).length ≤ 2 * L.length + 1 := fun L => by
    induction L with
    | nil => intro k; unfold pcc; split <;> simp
    | cons z r ih =>
      intro k
      have := ih (z.hi + 1)
      show ((if k < z.lo then _ else []) ++ z :: pcc R 255 (z.hi + 1) r).length ≤ _
      rw [List.length_append, List.length_cons, List.length_cons]
      split <;> simp <;> omega
  have := this L 0
  omega

set_option maxRecDepth 100000 in
set_option maxHeartbeats 6400000 in
theorem treach_any (A B : Option Addr) (c cb : Nat) (L : List Zc) (kn : List (Int × Int)) (o : Int) (w : World) (h : OneZ w A c L) (hb : OneL w B cb kn) :
    Calls Try.prog 17 #[.slice A L.length c, .slice B kn.length cb, .int .i64 o] w (Ans (Tr.rchR (L.map Zc.zn) kn o) w) := by
  have N1 := Lib.hid (fun (w' : World) (b : Below w.heap.size w w') => tformed_any A c L w' (h.later b))
  have N2 := Lib.hid (fun (w' : World) (b : Below w.heap.size w w') => formed_any B cb kn w' (hb.later b))
  have HD := Lib.hid h
  have HK := Lib.hid hb
  clear h hb
  have b0 := below_new (below_new (Below.refl w.heap.size w) (.cells #[.int .i64 o] 3)) (.cells #[.slice none 0 0] 23)
  have B5 := (Blk.new w 3 #[.int .i64 o]).alloc (.cells #[.slice none 0 0] 23)
  have B6 := Blk.new (w.alloc (.cells #[.int .i64 o] 3)) 23 #[.slice none 0 0]
  simp only [World.size_alloc] at B6
  refine (callsIn_wide (n := 3)).1 ?_
  refine callsIn_of_wp_marks Try.func17 rfl trivial ?_ rfl
  simp only [Try.ntmps17, List.size_toArray, List.length_cons, List.length_nil, Nat.reduceAdd, Nat.reduceSub, Array.replicate_succ, Array.replicate_zero, List.push_toArray, List.append_toArray, List.nil_append, List.cons_append]
  cases hq : Tr.fmd (L.map Zc.zn) with
  | false =>
    have hR : Tr.rchR (L.map Zc.zn) kn o = [] := by unfold Tr.rchR; rw [if_neg (fun h => by rw [hq] at h; exact absurd h.1 Bool.false_ne_true)]
    rw [hR]
    rw [hq] at N1
    clear hR hq
    gi_wp2_with fail
    refine ⟨trivial, (callsIn_wide.2 (N1.out _ b0)).mono ?_⟩
    rintro e w1 ⟨rfl, b1⟩
    have C6 := B6.later b1
    have c6 := C6.cell (i := 0) rfl
    have f6 := C6.free 0
    have c7 := Lib.hid ((C6.put 0 (.slice none 0 0)).cell (i := 0) rfl)
    have FB := Lib.hid ((below_on b0 b1).setCell (p := ⟨w.heap.size + 1, 0, none⟩) (by show w.heap.size ≤ w.heap.size + 1; omega) (.slice none 0 0))
    clear N1 N2 B5 B6 b0 b1 C6
    gi_wp2_with fail
    refine ⟨trivial, ?_⟩
    gi_wp2
    exact ⟨.slice none 0 0, by simp [results, Try.f17, go_sem, c7.out], none, 0, rfl, OneL.nil, FB.out⟩
  | true =>
  rw [hq] at N1
  cases hk : Ve.fmd kn with
  | false =>
    have hR : Tr.rchR (L.map Zc.zn) kn o = [] := by unfold Tr.rchR; rw [if_neg (fun h => by rw [hk] at h; exact absurd h.2.1 Bool.false_ne_true)]
    rw [hR]
    rw [hk] at N2
    clear hR hk
    gi_wp2_with fail
    refine ⟨trivial, (callsIn_wide.2 (N1.out _ b0)).mono ?_⟩
    rintro e w1 ⟨rfl, b1⟩
    have bb1 := below_on b0 b1
    gi_wp2_with fail
    refine ⟨trivial, (callsIn_wide.2 (N2.out _ bb1)).mono ?_⟩
    rintro e w2 ⟨rfl, b2⟩
    have C6 := (B6.later (below_on (Below.refl _ _) b1)).later b2
    have c6 := C6.cell (i := 0) rfl
    have f6 := C6.free 0
    have c7 := Lib.hid ((C6.put 0 (.slice none 0 0)).cell (i := 0) rfl)
    have FB := Lib.hid ((below_on bb1 b2).setCell (p := ⟨w.heap.size + 1, 0, none⟩) (by show w.heap.size ≤ w.heap.size + 1; omega) (.slice none 0 0))
    clear N1 N2 B5 B6 b0 b1 C6 b2 bb1
    gi_wp2
    exact ⟨.slice none 0 0, by simp [results, Try.f17, go_sem, c7.out], none, 0, rfl, OneL.nil, FB.out⟩
  | true =>
  rw [hk] at N2
  have HQ := Lib.hid hq
  have HKF := Lib.hid hk
  clear hq hk
  gi_wp2_with fail
  refine ⟨trivial, (callsIn_wide.2 (N1.out _ b0)).mono ?_⟩
  rintro e w1 ⟨rfl, b1⟩
  have B5' := B5.later b1
  have B6' := B6.later b1
  have bb1 := below_on b0 b1
  have hz0 : w.heap.size + 2 ≤ w1.heap.size := by have := b1.size; simp at this; omega
  clear b1 B5 B6 b0
  gi_wp2_with fail
  refine ⟨trivial, (callsIn_wide.2 (N2.out _ bb1)).mono ?_⟩
  rintro e w2 ⟨rfl, b2⟩
  have B5 := B5'.later b2
  have B6 := B6'.later b2
  have bb2 := below_on bb1 b2
  have hz2 : w.heap.size + 2 ≤ w2.heap.size := by have := b2.size; omega
  clear b2 B5' B6' bb1 N1 N2 hz0
  gi_wp2_with fail
  refine ⟨trivial, (callsIn_wide.2 (everything_any w2)).mono ?_⟩
  rintro e w3 ⟨rfl, b3⟩
  have D5 := B5.later b3
  have D6 := B6.later b3
  have bb3 := below_on bb2 b3
  have hz3 : w.heap.size + 2 ≤ w3.heap.size := by have := b3.size; omega
  have PC := pieces_any A c L ⟨0, 0, B, cb, kn⟩ 0 255 w3
  have NP := Lib.hid PC
  clear b3 B5 B6 bb2 hz2 PC
  gi_wp2_with fail
  refine ⟨trivial, (callsIn_wide.2 NP.out).mono ?_⟩
  rintro e w4 ⟨bw, bz, br, rfl, Bw, Bz, Br, l1, l2, l3, b4⟩
  have E5 := D5.later b4
  have E6 := D6.later b4
  have bb4 := below_on bb3 b4
  clear NP
  gi_wp2_with fail
  have hrn : rowIn w4 (w.heap.size + 1) = none := by unfold rowIn; rw [E6.cell (i := 0) rfl]; rfl
  have hok : RowOk (w.heap.size + 1) w4 := ⟨E6.lt, fun r e => by rw [hrn] at e; cases e⟩
  have hok3 : RowOk (w.heap.size + 1) w3 := ⟨D6.lt, fun r e => by
    have : rowIn w3 (w.heap.size + 1) = none := by unfold rowIn; rw [D6.cell (i := 0) rfl]; rfl
    rw [this] at e; cases e⟩
  obtain ⟨P, hP⟩ : ∃ P, pcc ⟨0, 0, B, cb, kn⟩ 255 0 L = P := ⟨_, rfl⟩
  have hpc := fun k => all_piece HQ.out (R := ⟨0, 0, B, cb, kn⟩) HKF.out k
  have hsh := all_short HQ.out ⟨0, 0, B, cb, kn⟩
  have hzn := all_zn L ⟨0, 0, B, cb, kn⟩
  rw [hP] at hpc hsh hzn
  have HPC := Lib.hid hpc
  have HZN := Lib.hid hzn
  have SEQ := pieces_stops (w.heap.size + 1) 2 L P ⟨0, 0, B, cb, kn⟩ 0 255 hP (fmd_bounds HQ.out) (by omega) (by omega) HD.out.len A c bw bz br w4 hok (Safe.newer hok3 b4 l1 Bw.isCells) (Safe.newer hok3 b4 l3 Br.isCells) Bw Bz Br (ZoneSafe.old HD.out bb4 (by omega) (fun r e => by rw [hrn] at e; cases e))
  have E5H := Lib.hid E5
  have hz4 := bb4.size
  clear hpc hzn hP hok3 Bw Bz Br l1 l2 l3 D5 D6 b4 bb3 hz3
  refine wpIn_rangeFunc_ownH rfl (by omega) (gf := 71) (lb := #[.pointer (some ⟨bw, 0, none⟩), .pointer (some ⟨bz, 0, none⟩), .pointer (some ⟨br, 0, none⟩)]) rfl trivial enters_eachP SEQ KeepB.trans (fun W l' o o' hl h1 h2 _ => KeepB.put l' o o' h1 h2 (show l' ≠ w.heap.size + 1 by have := E6.lt; omega)) (Below.refl _ _) (fun _ => rfl)
    (fun pre W => (Blk W w.heap.size 3 #[.int .i64 o] ∧ Blk W (w.heap.size + 1) 23 #[.slice none 0 0]) ∧ (Below w.heap.size w W ∧ ∀ k ∈ pre, inOf [((P.getD k Zc.none).lo, (P.getD k Zc.none).hi)] o = false))
    (fun cd pre W => (∃ k, k ∈ pre ∧ inOf [((P.getD k Zc.none).lo, (P.getD k Zc.none).hi)] o = true ∧ cd = .ret ∧ ∃ v, Boxed W (w.heap.size + 1) 23 v ∧ W.ownsRow w.heap.size 53 2 v (P.getD k Zc.none).l.length (stCells (P.getD k Zc.none).l) ∧ True) ∧ Below w.heap.size w W)
    ?hI ?hIx ⟨⟨E5, E6⟩, bb4, fun k hk => by cases hk⟩
    (fun x a' W => ∃ Bx, w.heap.size + 1 < Bx ∧ Blk W Bx 55 #[.int .i64 (P.getD x Zc.none).lo, .int .i64 (P.getD x Zc.none).hi] ∧ a' = { tmps := #[.slice A L.length c, .slice B kn.length cb, .int .i64 o, undef, undef, .pointer (some ⟨w.heap.size, 0, none⟩), .pointer (some ⟨w.heap.size + 1, 0, none⟩), .pointer (some ⟨Bx, 0, none⟩), .slice (P.getD x Zc.none).X (P.getD x Zc.none).l.length (P.getD x Zc.none).c, .slice A L.length c, .bool true, .bool false, .bool false, .slice B kn.length cb, .bool true, .bool false, .bool false, .slice A L.length c, .slice B kn.length cb, .agg #[.int .i64 0, .int .i64 255], .func (.func 71) #[] #[.pointer (some ⟨bw, 0, none⟩), .pointer (some ⟨bz, 0, none⟩), .pointer (some ⟨br, 0, none⟩)], .agg #[.int .i64 (P.getD x Zc.none).lo, .int .i64 (P.getD x Zc.none).hi], .slice (P.getD x Zc.none).X (P.getD x Zc.none).l.length (P.getD x Zc.none).c, undef, undef, undef, undef, undef, undef], defers := [] })
    ?hAx ?assign ?body ?done ?stop
  case hI => exact OwnFrom.and (OwnFrom.and (Own.from (blk_own _ _ fun _ => #[.int .i64 o]) _) (Own.from (blk_own _ _ fun _ => #[.slice none 0 0]) _)) (OwnFrom.and (ownFrom_below (Nat.le_refl _) hz4) (ownFrom_pure _ _))
  case hIx =>
    exact fun cd => OwnFrom.and (fun pre X Y row ⟨k, h1, h2, h3, h4⟩ hg hr => ⟨k, h1, h2, h3, holdsRow_own w.heap.size (w.heap.size + 1) 23 53 2 (fun (_ : Unit) => (P.getD k Zc.none).l.length) (fun _ => stCells (P.getD k Zc.none).l) (fun _ _ => True) () X Y row h4 hg (fun r e => (hr r e).2)⟩) (ownFrom_below (Nat.le_refl _) hz4)
  case hAx => exact fun x a' _ X Y row ⟨Bx, h1, h2, h3⟩ hg hr => ⟨Bx, h1, blk_own _ _ (fun (_ : Unit) => #[.int .i64 (P.getD x Zc.none).lo, .int .i64 (P.getD x Zc.none).hi]) () X Y row h2 hg (fun r e => (hr r e).2), h3⟩
  case assign =>
    rintro l' pre x W K ⟨⟨i1, i2⟩, i3, i4⟩ hK
    unfold tellP toldP
    have hrW : RowOk (w.heap.size + 1) W := ⟨i2.lt, fun r e => by
      have : rowIn W (w.heap.size + 1) = none := by unfold rowIn; rw [i2.cell (i := 0) rfl]; rfl
      rw [this] at e; cases e⟩
    have HK := Lib.hid (fun a' W' h1 h2 h3 h4 => hK a' W' h1 h2 h3 h4)
    have FIN := Lib.hid (show (KeepsFrom w4.heap.size W (W.alloc (.cells #[.int .i64 (P.getD x Zc.none).lo, .int .i64 (P.getD x Zc.none).hi] 55)) ∧ KeepB (w.heap.size + 1) W (W.alloc (.cells #[.int .i64 (P.getD x Zc.none).lo, .int .i64 (P.getD x Zc.none).hi] 55)) ∧ Blk (W.alloc (.cells #[.int .i64 (P.getD x Zc.none).lo, .int .i64 (P.getD x Zc.none).hi] 55)) w.heap.size 3 #[.int .i64 o] ∧ Blk (W.alloc (.cells #[.int .i64 (P.getD x Zc.none).lo, .int .i64 (P.getD x Zc.none).hi] 55)) (w.heap.size + 1) 23 #[.slice none 0 0] ∧ Below w.heap.size w (W.alloc (.cells #[.int .i64 (P.getD x Zc.none).lo, .int .i64 (P.getD x Zc.none).hi] 55))) ∧ Blk (W.alloc (.cells #[.int .i64 (P.getD x Zc.none).lo, .int .i64 (P.getD x Zc.none).hi] 55)) W.heap.size 55 #[.int .i64 (P.getD x Zc.none).lo, .int .i64 (P.getD x Zc.none).hi] from
      ⟨⟨(KeepsOthers.alloc _ _).from _, KeepB.below hrW (below_new (Below.refl _ _) _), i1.alloc _, i2.alloc _, below_new i3 _⟩, Blk.new _ _ _⟩)
    have hlt := i2.lt
    have I4 := Lib.hid i4
    clear hK i1 i2 i3 i4 hrW
    gi_wp2
    obtain ⟨⟨f1, f2, f3, f4, f5⟩, f6⟩ := FIN.out
    exact HK.out _ _ f1 f2 ⟨⟨f3, f4⟩, f5, I4.out⟩ ⟨W.heap.size, hlt, f6, rfl⟩
  case body =>
    rintro l' pre x a' W hl _ ⟨⟨i1, i2⟩, i3, i4⟩ ⟨Bx, hBx, hX, rfl⟩ hlt
    obtain ⟨p1, p2, p3, p4, p5⟩ := HPC.out x
    have p5 := p5 W (fun z hz => (HD.out.each z hz).later i3) (HK.out.later i3)
    obtain ⟨p, hp⟩ : ∃ p, P.getD x Zc.none = p := ⟨_, rfl⟩
    rw [hp] at hX p1 p2 p3 p4 p5 ⊢
    have HX := Lib.hid hX
    have HO5 := Lib.hid i1
    have HO6 := Lib.hid i2
    have H5 := Lib.hid p5
    have HP4 := Lib.hid p4
    have I3 := Lib.hid i3
    have I4 := Lib.hid i4
    have HPP := Lib.hid hp
    clear hX i1 i2 p5 p4 i3 i4 hp E5 E6 hok SEQ
    gi_wp2_with fail
    refine wpIn_region_facts 3 (by kernel_rfl) (by kernel_rfl) (by kernel_rfl) ?letsoutR
      (fun v => { tmps := #[.slice A L.length c, .slice B kn.length cb, .int .i64 o, undef, undef, .pointer (some ⟨w.heap.size, 0, none⟩), .pointer (some ⟨w.heap.size + 1, 0, none⟩), .pointer (some ⟨Bx, 0, none⟩), .slice p.X p.l.length p.c, .slice A L.length c, .bool true, .bool false, .bool false, .slice B kn.length cb, .bool true, .bool false, .bool false, .slice A L.length c, .slice B kn.length cb, .agg #[.int .i64 0, .int .i64 255], .func (.func 71) #[] #[.pointer (some ⟨bw, 0, none⟩), .pointer (some ⟨bz, 0, none⟩), .pointer (some ⟨br, 0, none⟩)], .agg #[.int .i64 p.lo, .int .i64 p.hi], .slice p.X p.l.length p.c, v 0, v 1, v 2, undef, undef, undef], defers := [] }) (fun _ => undef)
      (fun i x wx => match i with
        | 0 => x = .agg #[.int .i64 p.lo, .int .i64 p.hi]
        | 1 => ∃ g, x = .slice (some ⟨g, 0, none⟩) 1 1 ∧ Blk wx g 55 #[.int .i64 p.lo, .int .i64 p.hi]
        | 2 => x = .int .i64 o
        | _ => True)
      (fun w1 w2 => Below w1.heap.size w1 w2) (fun h1 h2 => below_on h1 h2) (fun _ => Below.refl _ _) (Below.drew (Below.refl _ _)) ?stabR ?stepR ?doneR
    case letsoutR => exact fun ⟨_, _, h⟩ => h
    case stabR =>
      rintro i x w1 w2 h hb
      match i, h with
      | 0, h => exact h
      | 1, h => obtain ⟨g, h1, h2⟩ := h; exact ⟨g, h1, h2.later hb⟩
      | 2, h => exact h
      | i + 3, _ => trivial
    case stepR =>
      intro i hi v w' hb hd
      match i, hi with
      | 0, _ =>
        refine wpOp_oneK rfl (fun KK hKK => ?_)
        have HKK := Lib.hid hKK
        clear hKK hd
        have q0 := cell_later hb (HX.out.cell (i := 0) rfl)
        have q1 := cell_later hb (HX.out.cell (i := 1) rfl)
        go_wp2
        exact HKK.out _ _ ⟨_, (by simp [upd]; done), Below.refl _ _, rfl⟩
      | 1, _ =>
        have h0 : v 0 = _ := hd 0 (List.elem_iff.1 (by kernel_rfl))
        refine wpOp_oneK rfl (fun KK hKK => ?_)
        have HKK := Lib.hid hKK
        clear hKK hd
        rw [h0]
        go_wp2_with fail
        refine (alone_any _ _ _).mono ?_
        rintro e w'' ⟨g, rfl, ob, -, b⟩
        go_wp2
        exact HKK.out _ _ ⟨_, (by simp [upd, h0]; done), b, g, rfl, ob⟩
      | 2, _ =>
        refine wpOp_oneK rfl (fun KK hKK => ?_)
        have HKK := Lib.hid hKK
        clear hKK hd
        have q0 := cell_later hb (HO5.out.cell (i := 0) rfl)
        go_wp2
        exact HKK.out _ _ ⟨_, (by simp [upd]; done), Below.refl _ _, rfl⟩
      | k + 3, hk => exact absurd hk (by omega)
    case doneR =>
      intro v w5 hb hf
      obtain ⟨g1, h1, o1⟩ := hf 1 (by decide)
      have h2 : v 2 = _ := hf 2 (by decide)
      clear hf
      rw [h1, h2]
      have bW := below_on (Below.refl W.heap.size W) hb
      have NH := sphas_any (some ⟨g1, 0, none⟩) 1 [(p.lo, p.hi)] o w5 (one_stamp o1)
      have BW := Lib.hid hb
      cases hin : inOf [(p.lo, p.hi)] o with
      | false =>
        rw [hin] at NH
        have HN := Lib.hid NH
        have HIN := Lib.hid hin
        clear NH hin bW hb o1 h1
        go_wp2_with fail
        refine HN.out.mono ?_
        rintro e w6 ⟨rfl, b6⟩
        have b7 := below_on BW.out b6
        have hrW : RowOk (w.heap.size + 1) W := ⟨HO6.out.lt, fun r e => by
          have : rowIn W (w.heap.size + 1) = none := by unfold rowIn; rw [HO6.out.cell (i := 0) rfl]; rfl
          rw [this] at e; cases e⟩
        have FIN := Lib.hid (show KeepsFrom w4.heap.size W w6 ∧ KeepB (w.heap.size + 1) W w6 ∧ (Blk w6 w.heap.size 3 #[.int .i64 o] ∧ Blk w6 (w.heap.size + 1) 23 #[.slice none 0 0]) ∧ (Below w.heap.size w w6 ∧ ∀ k ∈ pre ++ [x], inOf [((P.getD k Zc.none).lo, (P.getD k Zc.none).hi)] o = false) from
          ⟨⟨b7.size, fun k u _ hk0 _ => (b7.block k (Array.getElem?_eq_some_iff.1 hk0).1).trans hk0⟩, KeepB.below hrW b7, ⟨HO5.out.later b7, HO6.out.later b7⟩, below_on I3.out b7, fun k hk => by
            rcases List.mem_append.1 hk with hk | hk
            · exact I4.out k hk
            · rw [List.mem_singleton] at hk
              subst hk
              rw [HPP.out]
              exact HIN.out⟩)
        clear b6 b7 hrW
        go_wp2_with fail
        gi_wp2
        exact FIN.out
      | true =>
        rw [hin] at NH
        have HN := Lib.hid NH
        have HIN := Lib.hid hin
        clear NH hin bW hb o1 h1
        go_wp2_with fail
        refine HN.out.mono ?_
        rintro e w6 ⟨rfl, b6⟩
        have b7 := below_on BW.out b6
        have CL := Lib.hid (cloneS_any p.X p.c p.l w6 (by have := Tr.short HP4.out; omega) (H5.out.later b7))
        have C6 := HO6.out.later b7
        clear b6
        go_wp2_with fail
        gi_wp2_with fail
        refine ⟨trivial, (CallsIn.inRound l' (callsIn_wide.2 CL.out)).mono ?_⟩
        rintro e w8 ⟨v8, rfl, ho, b8⟩
        obtain ⟨X8, c8, rfl, -, -, -, -⟩ := own_form ho
        have D6 := C6.later b8
        have d6 := D6.cell (i := 0) rfl
        have f6 := D6.free 0
        have b9 := below_on b7 b8
        have hz6 := C6.lt
        have hz7 := b7.size
        have FIN := Lib.hid (show KeepsFrom w4.heap.size W (w8.setCell ⟨w.heap.size + 1, 0, none⟩ (.slice X8 p.l.length c8)) ∧ (∃ k, k ∈ pre ++ [x] ∧ inOf [((P.getD k Zc.none).lo, (P.getD k Zc.none).hi)] o = true ∧ Code.ret = .ret ∧ ∃ v, Boxed (w8.setCell ⟨w.heap.size + 1, 0, none⟩ (.slice X8 p.l.length c8)) (w.heap.size + 1) 23 v ∧ (w8.setCell ⟨w.heap.size + 1, 0, none⟩ (.slice X8 p.l.length c8)).ownsRow w.heap.size 53 2 v (P.getD k Zc.none).l.length (stCells (P.getD k Zc.none).l) ∧ True) ∧ Below w.heap.size w (w8.setCell ⟨w.heap.size + 1, 0, none⟩ (.slice X8 p.l.length c8)) from
          ⟨(KeepsFrom.trans ⟨b9.size, fun k u _ hk0 _ => (b9.block k (Array.getElem?_eq_some_iff.1 hk0).1).trans hk0⟩ ((KeepsOthers.setCell _ _ _).from _)),
            ⟨x, List.mem_append.2 (.inr (List.mem_singleton.2 rfl)), by rw [HPP.out]; exact HIN.out, rfl, _, D6.put 0 (.slice X8 p.l.length c8), by
              rw [HPP.out]
              exact own_base (own_stays ho (fun k hk => Below.heap_setCell _ _ _ k (by have := own_ge ho k hk; show k ≠ w.heap.size + 1; omega))) (by omega), trivial⟩,
            (below_on I3.out b9).setCell (p := ⟨w.heap.size + 1, 0, none⟩) (by show w.heap.size ≤ w.heap.size + 1; omega) _⟩)
        clear ho b8 b9 b7 C6 CL HN
        gi_wp2
        obtain ⟨f1, ⟨k, q1, q2, _, q4⟩, f3⟩ := FIN.out
        exact ⟨f1, ⟨k, q1, q2, rfl, q4⟩, f3⟩
  case done =>
    rintro DD ys W hDD hys ⟨⟨i1, i2⟩, i3, i4⟩ hK
    have hR : Tr.rchR (L.map Zc.zn) kn o = [] := by
      refine Tr.rch_nowhere HQ.out (fun z hz => ?_)
      rw [← HZN.out] at hz
      obtain ⟨y, hy, rfl⟩ := List.mem_map.1 hz
      obtain ⟨k, hk, rfl⟩ := List.mem_iff_getElem.1 hy
      have := i4 k (by rw [hys]; exact List.mem_range.2 hk)
      rw [List.getD_eq_getElem?_getD, List.getElem?_eq_getElem hk] at this
      exact this
    have c6 := i2.cell (i := 0) rfl
    have f6 := i2.free 0
    have HK2 := Lib.hid hK
    have c7 := Lib.hid ((i2.put 0 (.slice none 0 0)).cell (i := 0) rfl)
    have FB := Lib.hid (i3.setCell (p := ⟨w.heap.size + 1, 0, none⟩) (by show w.heap.size ≤ w.heap.size + 1; omega) (.slice none 0 0))
    have hz5 := i3.size
    have HR := Lib.hid hR
    clear i1 i2 i3 i4 hys hR hK SEQ E5 E6 hok
    gi_wp2
    have hK' := (KeepsOthers.setCell W ⟨w.heap.size + 1, 0, none⟩ (.slice none 0 0)).same DD _ HK2.out rfl
    refine ⟨by simp, .inl ⟨_, _, rfl, run_takeDeferred hK', ?_⟩⟩
    have hc5 := cell_kept c7.out (grownBy_putObj' _ DD (.deferred none)) (fun r e => by cases e; exact ⟨_, hK', rfl⟩)
    exact ⟨.slice none 0 0, by simp [results, Try.f17, go_sem, hc5], by rw [HR.out]; exact ⟨none, 0, rfl, OneL.nil, FB.out.trans (belowK_b (w := w) (Nat.le_refl _) _ DD _ _ (by omega) hK' rfl rfl)⟩⟩
  case stop =>
    rintro DD cd pre W hDD hpre ⟨⟨k, hk, hin, rfl, v, hv, ho, -⟩, i3⟩ hK
    have hkP : k < P.length := List.mem_range.1 (hpre.subset hk)
    have hmem : (P.getD k Zc.none).zn ∈ Tr.all (L.map Zc.zn) kn := by
      rw [← HZN.out, List.getD_eq_getElem?_getD, List.getElem?_eq_getElem hkP]
      exact List.mem_map.2 ⟨_, List.getElem_mem hkP, rfl⟩
    have hR : Tr.rchR (L.map Zc.zn) kn o = (P.getD k Zc.none).l := Tr.rch_piece HQ.out HKF.out hmem hin
    obtain ⟨X8, c8, rfl, hO⟩ := OneL.of_own ho
    have hc := hv.cell
    have ho2 := ownsRow_putObj ho (.deferred none) hK rfl
    obtain ⟨X9, c9, e9, hO9⟩ := OneL.of_own ho2
    injection e9 with e9 _ e10
    subst e9 e10
    have HR := Lib.hid hR
    have HK2 := Lib.hid hK
    have hc5 := Lib.hid (cell_kept hc (grownBy_putObj' W DD (.deferred none)) (fun r e => by cases e; exact ⟨_, hK, rfl⟩))
    have FB := Lib.hid (i3.trans (belowK_b (w := w) (Nat.le_refl _) W DD _ (.deferred none) (by omega) hK rfl rfl))
    have HO9 := Lib.hid hO9
    clear hv ho hO hc ho2 hO9 hK i3 SEQ E5 E6 hok hin hpre hk hmem hR
    gi_wp2
    refine ⟨by simp, .inl ⟨_, _, rfl, run_takeDeferred HK2.out, ?_⟩⟩
    have hc6 := hc5.out
    exact ⟨_, by simp [results, Try.f17, go_sem, hc6]; rfl, by rw [HR.out]; exact ⟨X8, c8, rfl, HO9.out, FB.out⟩⟩
end Go.Proofs.Ytcfkpjbakccgiaa
