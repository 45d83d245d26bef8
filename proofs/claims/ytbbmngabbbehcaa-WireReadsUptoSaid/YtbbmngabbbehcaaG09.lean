/-
  What telltaleref04's Copy answers of any note: the same, in memory of its own.
  What telltaleref04's Writes, Same, Fits and News answer.
  What telltaleref04's Formed answers of any note.
  Plain mathematics of wire: what is read from bytes, place by place; worlds that agree but for one block and what is new. Nothing of the program is imported but by what it stands on.
-/
import Derived.Test.YtbbmngabbbehcaaG04
import Derived.Test.YtbbmngabbbehcaaG06
import Derived.Test.YtbbmngabbbehcaaG08
import Derived.Test.YtbbmngabbbehcaaG03
namespace Go.Proofs.Ytbbmngabbbehcaa
open Go.RowKit

theorem Gives.one {l : List (Int × Int)} {w w' : World} {e : Ending} (h : Gives l w e w') : ∃ A c, e = .returned (.slice A l.length c) ∧ OneL w' A c l ∧ Below w.heap.size w w' := by
  obtain ⟨v, rfl, ho, hb⟩ := h
  obtain ⟨A, c, rfl, h1⟩ := OneL.of_own ho
  exact ⟨A, c, rfl, h1, hb⟩
theorem infoNt : (Try.prog.info? 51).map (·.size) = some 4 := by kernel_rfl
theorem infoWr : (Try.prog.info? 101).map (fun i => (i.zero, i.size, i.bytes)) = some (some (.agg #[.int .i64 0, .int .i64 0, .int .i64 0, .bool false]), 4, 32) := by kernel_rfl

end Go.Proofs.Ytbbmngabbbehcaa
namespace Go.Proofs.Ytbbmngabbbehcaa
open Go.RowKit

theorem wr_ext {l r : List Wr} (h : l.length = r.length) (hk : ∀ k, k < l.length → l.getD k Nt.zeroW = r.getD k Nt.zeroW) : l = r := by
  apply List.ext_getElem h
  intro i h1 h2
  have := hk i h1
  rw [List.getD_eq_getElem?_getD, List.getD_eq_getElem?_getD, List.getElem?_eq_getElem h1, List.getElem?_eq_getElem h2] at this
  simpa using this

set_option maxHeartbeats 3200000 in
theorem nwrites_any (A B : Option Addr) (c1 c2 : Nat) (l r : List Wr) (w : World) (h1 : OneW w A c1 l) (h2 : OneW w B c2 r) :
    Calls Try.prog 69 #[.slice A l.length c1, .slice B r.length c2] w (Says (.bool (decide (l = r))) w) := by
  have hl := h1.len
  have H1 := Lib.hid h1
  have H2 := Lib.hid h2
  clear h1 h2
  by_cases hlen : l.length = r.length
  · have hd0 : ((l.length : Int) != (r.length : Int)) = false := by rw [bne_eq_false_iff_eq]; omega
    have HLEN := Lib.hid hlen
    have hr1 : r.length ≤ l.length := by omega
    have hr2 : l.length ≤ r.length := by omega
    clear hlen
    go_enter Try.func69, Try.ntmps69
    go_wp2_with fail
    go_loopw [5] (fun s5 wr => ∃ k : Nat, k ≤ l.length ∧ s5 = .int .i64 (k : Int) ∧ (∀ j, j < k → l.getD j Nt.zeroW = r.getD j Nt.zeroW) ∧ Below w.heap.size w wr) (fun s5 _ => l.length - (intOf s5).toNat)
    case atStart => exact ⟨0, Nat.zero_le _, rfl, fun j hj => by omega, Below.refl _ _⟩
    case round =>
      obtain ⟨k, hk, rfl, heq, hbw⟩ := hrel
      have HEQ := Lib.hid heq
      clear heq
      by_cases hlt : k < l.length
      · have hne : l ≠ [] := fun e => by subst e; simp at hlt
        have hne2 : r ≠ [] := fun e => by have := HLEN.out; subst e; simp at this; exact hne this
        obtain ⟨b, off, hA, hcA⟩ := (H1.out.later hbw).at hne
        obtain ⟨b', off', hB, hcB⟩ := (H2.out.later hbw).at hne2
        obtain ⟨e0, e1, e2, e3⟩ := hcA k hlt
        obtain ⟨f0, f1, f2, f3⟩ := hcB k (by omega)
        have H1' := H1
        have H2' := H2
        subst hA hB
        clear hcA hcB
        have hi0 : (0 : Int) ≤ (k : Int) := by omega
        have hi1 : (k : Int) < (l.length : Int) := by omega
        have hi2 : (k : Int) < (r.length : Int) := by omega
        obtain ⟨x, hx⟩ : ∃ x, l.getD k Nt.zeroW = x := ⟨_, rfl⟩
        obtain ⟨y, hy⟩ : ∃ y, r.getD k Nt.zeroW = y := ⟨_, rfl⟩
        rw [hx] at e0 e1 e2 e3
        rw [hy] at f0 f1 f2 f3
        have HX := Lib.hid hx
        have HY := Lib.hid hy
        clear hx hy
        by_cases hxy : x = y
        · subst hxy
          go_wp2_with fail
          go_quiet (fail)
          go_wp2_with fail
          go_roundw
          case rel =>
            refine ⟨k + 1, by omega, by go_num, ?_, below_drewN hbw _⟩
            intro j hj
            by_cases e : j = k
            · subst e; rw [HX.out, HY.out]
            · exact HEQ.out j (by omega)
          case measure => simp [intOf]; omega
        · have hno : decide (l = r) = false := decide_eq_false (fun e => hxy (by rw [← HX.out, ← HY.out, e]))
          have HNO := Lib.hid hno
          clear hno
          obtain ⟨x1, x2, x3, x4⟩ := x
          obtain ⟨y1, y2, y3, y4⟩ := y
          have hall : (x1 == y1) = false ∨ (x1 = y1 ∧ (x2 == y2) = false) ∨ (x1 = y1 ∧ x2 = y2 ∧ (x3 == y3) = false) ∨ (x1 = y1 ∧ x2 = y2 ∧ x3 = y3 ∧ (x4 == y4) = false) := by
            by_cases q1 : x1 = y1
            · by_cases q2 : x2 = y2
              · by_cases q3 : x3 = y3
                · exact .inr (.inr (.inr ⟨q1, q2, q3, beq_eq_false_iff_ne.2 (fun e => hxy (by rw [q1, q2, q3, e]))⟩))
                · exact .inr (.inr (.inl ⟨q1, q2, beq_eq_false_iff_ne.2 q3⟩))
              · exact .inr (.inl ⟨q1, beq_eq_false_iff_ne.2 q2⟩)
            · exact .inl (beq_eq_false_iff_ne.2 q1)
          clear hxy
          rcases hall with h1 | ⟨rfl, h1⟩ | ⟨rfl, rfl, h1⟩ | ⟨rfl, rfl, rfl, h1⟩
          all_goals
            go_wp2_with fail
            go_quiet (fail)
            go_wp2
            go_ret
            exact ⟨by rw [HNO.out]; rfl, below_drewN hbw _⟩
      · have hyes : decide (l = r) = true := decide_eq_true (wr_ext HLEN.out (fun j hj => HEQ.out j (by omega)))
        have HY := Lib.hid hyes
        clear hyes
        go_wp2
        go_ret
        exact ⟨by rw [HY.out]; rfl, hbw⟩
  · have hd0 : ((l.length : Int) != (r.length : Int)) = true := by rw [bne_iff_ne]; omega
    have hno : decide (l = r) = false := decide_eq_false (fun e => hlen (by rw [e]))
    have HNO := Lib.hid hno
    clear hno
    go_enter Try.func69, Try.ntmps69
    go_wp2
    go_ret
    exact ⟨by rw [HNO.out]; rfl, Below.refl _ _⟩

/-- The same notes? -/
def sameN (a b : Note) : Bool := decide (a.s = b.s) && (decide (a.e = b.e) && (decide (a.b = b.b) && decide (a.ws = b.ws)))
theorem sameN_iff (a b : Note) : sameN a b = true ↔ a = b := by
  unfold sameN
  simp only [Bool.and_eq_true, decide_eq_true_eq]
  constructor
  · rintro ⟨h1, h2, h3, h4⟩
    cases a
    cases b
    simp_all
  · rintro rfl
    exact ⟨rfl, rfl, rfl, rfl⟩
theorem sameN_self (a : Note) : sameN a a = true := (sameN_iff a a).2 rfl

/-- A note in a block of its own, by its cells. -/
theorem note_cells {w : World} {g : Nat} {t : TypeId} {S E B V : Option Addr} {cs ce cb cv : Nat} {n : Note} (h : Blk w g t (noteCells S E B V cs ce cb cv n)) :
    w.cell? ⟨g, 0, none⟩ = some (.slice S n.s.length cs) ∧ w.cell? ⟨g, 1, none⟩ = some (.slice E n.e.length ce) ∧ w.cell? ⟨g, 2, none⟩ = some (.slice B n.b.length cb) ∧ w.cell? ⟨g, 3, none⟩ = some (.slice V n.ws.length cv) := ⟨h.cell rfl, h.cell rfl, h.cell rfl, h.cell rfl⟩

set_option maxHeartbeats 1600000 in
theorem nsame_any (S E B V S' E' B' V' : Option Addr) (cs ce cb cv cs' ce' cb' cv' : Nat) (n m : Note) (w : World) (h1 : NoteAt w S E B V cs ce cb cv n) (h2 : NoteAt w S' E' B' V' cs' ce' cb' cv' m) :
    Calls Try.prog 30 #[.agg (noteCells S E B V cs ce cb cv n), .agg (noteCells S' E' B' V' cs' ce' cb' cv' m)] w (Says (.bool (sameN n m)) w) := by
  obtain ⟨W, hW⟩ : ∃ W, (w.alloc (.cells (noteCells S E B V cs ce cb cv n) 51)).alloc (.cells (noteCells S' E' B' V' cs' ce' cb' cv' m) 51) = W := ⟨_, rfl⟩
  have hb0 : Below w.heap.size w W := by rw [← hW]; exact below_new (below_new (Below.refl _ _) _) _
  have hB0 : Blk W w.heap.size 51 (noteCells S E B V cs ce cb cv n) := by rw [← hW]; exact (Blk.new w _ _).alloc _
  have hB1 : Blk W (w.heap.size + 1) 51 (noteCells S' E' B' V' cs' ce' cb' cv' m) := by
    rw [← hW, show w.heap.size + 1 = (w.alloc (.cells (noteCells S E B V cs ce cb cv n) 51)).heap.size from by simp]
    exact Blk.new _ _ _
  have HB0 := Lib.hid hB0
  have HB1 := Lib.hid hB1
  have HN := Lib.hid (h1.later hb0)
  have HM := Lib.hid (h2.later hb0)
  have N0 := Lib.hid (fun wx (hb : Below W.heap.size W wx) => rsame_any S S' cs cs' n.s m.s wx (HN.out.hs.later hb).len (HN.out.hs.later hb).stamps (HM.out.hs.later hb).stamps)
  have N1 := Lib.hid (fun wx (hb : Below W.heap.size W wx) => rsame_any E E' ce ce' n.e m.e wx (HN.out.he.later hb).len (HN.out.he.later hb).stamps (HM.out.he.later hb).stamps)
  have N2 := Lib.hid (fun wx (hb : Below W.heap.size W wx) => ssame_any B B' cb cb' n.b m.b wx (HN.out.hb.later hb).len (HN.out.hb.later hb).stamps (HM.out.hb.later hb).stamps)
  have N3 := Lib.hid (fun wx (hb : Below W.heap.size W wx) => nwrites_any V V' cv cv' n.ws m.ws wx (HN.out.hv.later hb) (HM.out.hv.later hb))
  have HR := Lib.hid (show sameN n m = (decide (n.s = m.s) && (decide (n.e = m.e) && (decide (n.b = m.b) && decide (n.ws = m.ws)))) from rfl)
  obtain ⟨x0, hx0⟩ : ∃ x, decide (n.s = m.s) = x := ⟨_, rfl⟩
  obtain ⟨x1, hx1⟩ : ∃ x, decide (n.e = m.e) = x := ⟨_, rfl⟩
  obtain ⟨x2, hx2⟩ : ∃ x, decide (n.b = m.b) = x := ⟨_, rfl⟩
  obtain ⟨x3, hx3⟩ : ∃ x, decide (n.ws = m.ws) = x := ⟨_, rfl⟩
  rw [hx0] at N0 HR
  rw [hx1] at N1 HR
  rw [hx2] at N2 HR
  rw [hx3] at N3 HR
  have HW := Lib.hid hW
  clear hW hB0 hB1 h1 h2 hx0 hx1 hx2 hx3 HN HM
  obtain ⟨c0, c1, c2, c3⟩ := note_cells HB0.out
  obtain ⟨d0, d1, d2, d3⟩ := note_cells HB1.out
  have p0 := c0
  have q0 := d0
  rw [← HW.out] at p0 q0
  have bb := Below.refl W.heap.size W
  cases x0 with
  | false =>
    go_enter Try.func30, Try.ntmps30
    go_wp2_with fail
    rw [HW.out]
    refine (N0.out _ bb).mono ?_
    rintro e w1 ⟨rfl, b1⟩
    go_wp2
    go_ret
    exact ⟨by rw [HR.out]; rfl, below_on hb0 b1⟩
  | true =>
  cases x1 with
  | false =>
    go_enter Try.func30, Try.ntmps30
    go_wp2_with fail
    rw [HW.out]
    refine (N0.out _ bb).mono ?_
    rintro e w1 ⟨rfl, b1⟩
    have c1' := cell_later b1 c1
    have d1' := cell_later b1 d1
    go_wp2_with fail
    refine (N1.out _ b1).mono ?_
    rintro e w2 ⟨rfl, b2⟩
    go_wp2
    go_ret
    exact ⟨by rw [HR.out]; rfl, below_on (below_on hb0 b1) b2⟩
  | true =>
  cases x2 with
  | false =>
    go_enter Try.func30, Try.ntmps30
    go_wp2_with fail
    rw [HW.out]
    refine (N0.out _ bb).mono ?_
    rintro e w1 ⟨rfl, b1⟩
    have c1' := cell_later b1 c1
    have d1' := cell_later b1 d1
    go_wp2_with fail
    refine (N1.out _ b1).mono ?_
    rintro e w2 ⟨rfl, b2⟩
    have bb2 := below_on b1 b2
    have c2' := cell_later bb2 c2
    have d2' := cell_later bb2 d2
    go_wp2_with fail
    refine (N2.out _ bb2).mono ?_
    rintro e w3 ⟨rfl, b3⟩
    go_wp2
    go_ret
    exact ⟨by rw [HR.out]; rfl, below_on (below_on hb0 bb2) b3⟩
  | true =>
  go_enter Try.func30, Try.ntmps30
  go_wp2_with fail
  rw [HW.out]
  refine (N0.out _ bb).mono ?_
  rintro e w1 ⟨rfl, b1⟩
  have c1' := cell_later b1 c1
  have d1' := cell_later b1 d1
  go_wp2_with fail
  refine (N1.out _ b1).mono ?_
  rintro e w2 ⟨rfl, b2⟩
  have bb2 := below_on b1 b2
  have c2' := cell_later bb2 c2
  have d2' := cell_later bb2 d2
  go_wp2_with fail
  refine (N2.out _ bb2).mono ?_
  rintro e w3 ⟨rfl, b3⟩
  have bb3 := below_on bb2 b3
  have c3' := cell_later bb3 c3
  have d3' := cell_later bb3 d3
  go_wp2_with fail
  refine (N3.out _ bb3).mono ?_
  rintro e w4 ⟨rfl, b4⟩
  go_wp2
  go_ret
  exact ⟨by rw [HR.out]; rfl, below_on (below_on hb0 bb3) b4⟩

end Go.Proofs.Ytbbmngabbbehcaa
namespace Go.Proofs.Ytbbmngabbbehcaa
open Go.RowKit

namespace Nt
def obj (l : List Wr) (k : Nat) : Int := (l.getD k zeroW).2.2.1
/-- Are the first k writes as they must be? -/
def wsTo (n : Note) (k : Nat) : Prop := ∀ j, j < k → hasOf n.e (n.ws.getD j zeroW).1 (n.ws.getD j zeroW).2.1 = true ∧ (0 ≤ obj n.ws j ∧ obj n.ws j ≤ 255) ∧ inOf n.b (obj n.ws j) = false ∧ (0 < j → obj n.ws (j - 1) < obj n.ws j)
def wsOk (n : Note) : Bool := decide (∀ j : Fin n.ws.length, hasOf n.e (n.ws.getD j.val zeroW).1 (n.ws.getD j.val zeroW).2.1 = true ∧ (0 ≤ obj n.ws j.val ∧ obj n.ws j.val ≤ 255) ∧ inOf n.b (obj n.ws j.val) = false ∧ (0 < j.val → obj n.ws (j.val - 1) < obj n.ws j.val))
theorem wsOk_iff (n : Note) : wsOk n = true ↔ wsTo n n.ws.length := by
  unfold wsOk wsTo
  rw [decide_eq_true_iff]
  exact ⟨fun h j hj => h ⟨j, hj⟩, fun h j => h j.val j.isLt⟩
theorem wsOk_no {n : Note} (k : Nat) (hk : k < n.ws.length) (h : ¬ (hasOf n.e (n.ws.getD k zeroW).1 (n.ws.getD k zeroW).2.1 = true ∧ (0 ≤ obj n.ws k ∧ obj n.ws k ≤ 255) ∧ inOf n.b (obj n.ws k) = false ∧ (0 < k → obj n.ws (k - 1) < obj n.ws k))) : wsOk n = false := by
  cases hc : wsOk n with
  | false => rfl
  | true => exact absurd ((wsOk_iff n).1 hc k hk) h
/-- Is it a note as it must be? -/
def fmd (n : Note) : Bool := Ve.fmd n.s && (Ve.fmd n.e && (Ve.cov (Ve.cnt n.e) (Ve.cnt n.s) && (Sp.fmd n.b && wsOk n)))
end Nt

set_option maxRecDepth 100000 in
set_option maxHeartbeats 6400000 in
theorem nformed_any (S E B V : Option Addr) (cs ce cb cv : Nat) (n : Note) (w : World) (h1 : NoteAt w S E B V cs ce cb cv n) :
    Calls Try.prog 25 #[.agg (noteCells S E B V cs ce cb cv n)] w (Says (.bool (Nt.fmd n)) w) := by
  obtain ⟨W, hW⟩ : ∃ W, w.alloc (.cells (noteCells S E B V cs ce cb cv n) 51) = W := ⟨_, rfl⟩
  have hb0 : Below w.heap.size w W := by rw [← hW]; exact below_new (Below.refl _ _) _
  have hB0 : Blk W w.heap.size 51 (noteCells S E B V cs ce cb cv n) := by rw [← hW]; exact Blk.new w _ _
  obtain ⟨c0, c1, c2, c3⟩ := note_cells hB0
  have p0 := c0
  rw [← hW] at p0
  have HN := Lib.hid (h1.later hb0)
  have HR := Lib.hid (show Nt.fmd n = (Ve.fmd n.s && (Ve.fmd n.e && (Ve.cov (Ve.cnt n.e) (Ve.cnt n.s) && (Sp.fmd n.b && Nt.wsOk n)))) from rfl)
  have N0 := Lib.hid (fun wx (hb : Below W.heap.size W wx) => rformed_any S cs n.s wx (HN.out.hs.later hb).len (HN.out.hs.later hb).stamps)
  have N1 := Lib.hid (fun wx (hb : Below W.heap.size W wx) => rformed_any E ce n.e wx (HN.out.he.later hb).len (HN.out.he.later hb).stamps)
  have N2 := Lib.hid (fun wx (hb : Below W.heap.size W wx) => rcovers_any E S ce cs n.e n.s wx (HN.out.he.later hb).len (HN.out.hs.later hb).len (HN.out.he.later hb).stamps (HN.out.hs.later hb).stamps)
  have N3 := Lib.hid (fun wx (hb : Below W.heap.size W wx) => sformed_any B cb n.b wx (HN.out.hb.later hb))
  obtain ⟨x0, hx0⟩ : ∃ x, Ve.fmd n.s = x := ⟨_, rfl⟩
  obtain ⟨x1, hx1⟩ : ∃ x, Ve.fmd n.e = x := ⟨_, rfl⟩
  obtain ⟨x2, hx2⟩ : ∃ x, Ve.cov (Ve.cnt n.e) (Ve.cnt n.s) = x := ⟨_, rfl⟩
  obtain ⟨x3, hx3⟩ : ∃ x, Sp.fmd n.b = x := ⟨_, rfl⟩
  rw [hx0] at N0 HR
  rw [hx1] at N1 HR
  rw [hx2] at N2 HR
  rw [hx3] at N3 HR
  have HW := Lib.hid hW
  clear hW hx0 hx1 hx2 hx3
  have bb0 := Below.refl W.heap.size W
  cases x0 with
  | false =>
    go_enter Try.func25, Try.ntmps25
    go_wp2_with fail
    rw [HW.out]
    refine (N0.out _ bb0).mono ?_
    rintro e w1 ⟨rfl, b1⟩
    have bb1 := below_on bb0 b1
    go_wp2
    go_ret
    exact ⟨by rw [HR.out]; rfl, below_on hb0 bb1⟩
  | true =>
  cases x1 with
  | false =>
    go_enter Try.func25, Try.ntmps25
    go_wp2_with fail
    rw [HW.out]
    refine (N0.out _ bb0).mono ?_
    rintro e w1 ⟨rfl, b1⟩
    have bb1 := below_on bb0 b1
    have c1_1 := cell_later bb1 c1
    go_wp2_with fail
    refine (N1.out _ bb1).mono ?_
    rintro e w2 ⟨rfl, b2⟩
    have bb2 := below_on bb1 b2
    go_wp2
    go_ret
    exact ⟨by rw [HR.out]; rfl, below_on hb0 bb2⟩
  | true =>
  cases x2 with
  | false =>
    go_enter Try.func25, Try.ntmps25
    go_wp2_with fail
    rw [HW.out]
    refine (N0.out _ bb0).mono ?_
    rintro e w1 ⟨rfl, b1⟩
    have bb1 := below_on bb0 b1
    have c1_1 := cell_later bb1 c1
    go_wp2_with fail
    refine (N1.out _ bb1).mono ?_
    rintro e w2 ⟨rfl, b2⟩
    have bb2 := below_on bb1 b2
    have c0_2 := cell_later bb2 c0
    have c1_2 := cell_later bb2 c1
    go_wp2_with fail
    refine (N2.out _ bb2).mono ?_
    rintro e w3 ⟨rfl, b3⟩
    have bb3 := below_on bb2 b3
    go_wp2
    go_ret
    exact ⟨by rw [HR.out]; rfl, below_on hb0 bb3⟩
  | true =>
  cases x3 with
  | false =>
    go_enter Try.func25, Try.ntmps25
    go_wp2_with fail
    rw [HW.out]
    refine (N0.out _ bb0).mono ?_
    rintro e w1 ⟨rfl, b1⟩
    have bb1 := below_on bb0 b1
    have c1_1 := cell_later bb1 c1
    go_wp2_with fail
    refine (N1.out _ bb1).mono ?_
    rintro e w2 ⟨rfl, b2⟩
    have bb2 := below_on bb1 b2
    have c0_2 := cell_later bb2 c0
    have c1_2 := cell_later bb2 c1
    go_wp2_with fail
    refine (N2.out _ bb2).mono ?_
    rintro e w3 ⟨rfl, b3⟩
    have bb3 := below_on bb2 b3
    have c2_3 := cell_later bb3 c2
    go_wp2_with fail
    refine (N3.out _ bb3).mono ?_
    rintro e w4 ⟨rfl, b4⟩
    have bb4 := below_on bb3 b4
    go_wp2
    go_ret
    exact ⟨by rw [HR.out]; rfl, below_on hb0 bb4⟩
  | true =>
  go_enter Try.func25, Try.ntmps25
  go_wp2_with fail
  rw [HW.out]
  refine (N0.out _ bb0).mono ?_
  rintro e w1 ⟨rfl, b1⟩
  have bb1 := below_on bb0 b1
  have c1_1 := cell_later bb1 c1
  go_wp2_with fail
  refine (N1.out _ bb1).mono ?_
  rintro e w2 ⟨rfl, b2⟩
  have bb2 := below_on bb1 b2
  have c0_2 := cell_later bb2 c0
  have c1_2 := cell_later bb2 c1
  go_wp2_with fail
  refine (N2.out _ bb2).mono ?_
  rintro e w3 ⟨rfl, b3⟩
  have bb3 := below_on bb2 b3
  have c2_3 := cell_later bb3 c2
  go_wp2_with fail
  refine (N3.out _ bb3).mono ?_
  rintro e w4 ⟨rfl, b4⟩
  have bb4 := below_on bb3 b4
  have c3_4 := cell_later bb4 c3
  go_wp2_with fail
  go_loopw [3] (fun s3 wr => ∃ k : Nat, k ≤ n.ws.length ∧ s3 = .int .i64 (k : Int) ∧ Nt.wsTo n k ∧ Below W.heap.size W wr) (fun s3 _ => n.ws.length - (intOf s3).toNat)
  case atStart => exact ⟨0, Nat.zero_le _, rfl, fun j hj => by omega, bb4⟩
  case round =>
    obtain ⟨k, hk, rfl, hall, hbw⟩ := hrel
    have HALL := Lib.hid hall
    have hlenw := HN.out.hv.len
    have g1 := cell_later hbw c1
    have g2 := cell_later hbw c2
    have g3 := cell_later hbw c3
    clear hall c1_1 c0_2 c1_2 c2_3 c3_4 p0
    by_cases hlt : k < n.ws.length
    · have hne : n.ws ≠ [] := fun e => by rw [e] at hlt; simp at hlt
      obtain ⟨b, off, hA, hcA⟩ := (HN.out.hv.later hbw).at hne
      subst hA
      obtain ⟨e0, e1, e2, e3⟩ := hcA k hlt
      have hi0 : (0 : Int) ≤ (k : Int) := by omega
      have hi1 : (k : Int) < (n.ws.length : Int) := by omega
      have hno := @Nt.wsOk_no n k hlt
      have hnx : hasOf n.e (n.ws.getD k Nt.zeroW).1 (n.ws.getD k Nt.zeroW).2.1 = true → (0 ≤ Nt.obj n.ws k ∧ Nt.obj n.ws k ≤ 255) → inOf n.b (Nt.obj n.ws k) = false → (0 < k → Nt.obj n.ws (k - 1) < Nt.obj n.ws k) → Nt.wsTo n (k + 1) := fun q1 q2 q3 q4 j hj => by
        by_cases e : j = k
        · subst e; exact ⟨q1, q2, q3, q4⟩
        · exact HALL.out j (by omega)
      have hprev : ∀ m, k = m + 1 → wr.cell? ⟨b, off + m * 4 + 2, none⟩ = some (.int .i64 (Nt.obj n.ws m)) := fun m e => (hcA m (by omega)).2.2.1
      have hob : (n.ws.getD k Nt.zeroW).2.2.1 = Nt.obj n.ws k := rfl
      rw [hob] at e2
      obtain ⟨x, hx⟩ : ∃ x, (n.ws.getD k Nt.zeroW).1 = x := ⟨_, rfl⟩
      obtain ⟨y, hy⟩ : ∃ y, (n.ws.getD k Nt.zeroW).2.1 = y := ⟨_, rfl⟩
      obtain ⟨gn, hgn⟩ : ∃ gn, (n.ws.getD k Nt.zeroW).2.2.2 = gn := ⟨_, rfl⟩
      obtain ⟨o, ho⟩ : ∃ o, Nt.obj n.ws k = o := ⟨_, rfl⟩
      rw [hx] at e0 hno hnx
      rw [hy] at e1 hno hnx
      rw [hgn] at e3
      rw [ho] at e2 hno hnx
      obtain ⟨hs, hhs⟩ : ∃ hs, hasOf n.e x y = hs := ⟨_, rfl⟩
      obtain ⟨ib, hib⟩ : ∃ ib, inOf n.b o = ib := ⟨_, rfl⟩
      obtain ⟨W1, hW1⟩ : ∃ W1, wr.alloc (.cells #[.int .i64 x, .int .i64 y, .int .i64 o, .bool gn] 101) = W1 := ⟨_, rfl⟩
      have hbn : Below wr.heap.size wr W1 := by rw [← hW1]; exact below_new (Below.refl _ _) _
      have hB1 : Blk W1 wr.heap.size 101 #[.int .i64 x, .int .i64 y, .int .i64 o, .bool gn] := by rw [← hW1]; exact Blk.new wr _ _
      have hbw1 := below_on hbw hbn
      have k0 : ∀ d os, (Sort.grow (redrawn W1 d) os).cell? ⟨wr.heap.size, 0, none⟩ = some (.int .i64 x) := cell_regrown (hB1.cell rfl)
      have k1 : ∀ d os, (Sort.grow (redrawn W1 d) os).cell? ⟨wr.heap.size, 1, none⟩ = some (.int .i64 y) := cell_regrown (hB1.cell rfl)
      have k2 : ∀ d os, (Sort.grow (redrawn W1 d) os).cell? ⟨wr.heap.size, 2, none⟩ = some (.int .i64 o) := cell_regrown (hB1.cell rfl)
      have k4 : ∀ d os, (Sort.grow (redrawn W1 d) os).cell? ⟨w.heap.size, 1, none⟩ = some (.slice E n.e.length ce) := cell_regrown (cell_later hbn g1)
      have k5 : ∀ d os, (Sort.grow (redrawn W1 d) os).cell? ⟨w.heap.size, 2, none⟩ = some (.slice B n.b.length cb) := cell_regrown (cell_later hbn g2)
      have k6 : ∀ d os, (Sort.grow (redrawn W1 d) os).cell? ⟨w.heap.size, 3, none⟩ = some (.slice (some ⟨b, off, none⟩) n.ws.length cv) := cell_regrown (cell_later hbn g3)
      have cH : ∀ d os, Calls Try.prog 62 #[.slice E n.e.length ce, .agg #[.int .i64 x, .int .i64 y]] (Sort.grow (redrawn W1 d) os) fun e w'' => e = .returned (.bool hs) ∧ ∃ p : Regrown, w'' = Sort.grow (redrawn W1 p.d) p.os := fun d os => by
        rw [← hhs]
        have hE := (HN.out.he.later hbw1).later (below_regrown W1 d os)
        exact Calls.regrown_of (rhas_any E ce n.e x y _ hE.len hE.stamps)
      have cI : ∀ d os, Calls Try.prog 63 #[.slice B n.b.length cb, .int .i64 o] (Sort.grow (redrawn W1 d) os) fun e w'' => e = .returned (.bool ib) ∧ ∃ p : Regrown, w'' = Sort.grow (redrawn W1 p.d) p.os := fun d os => by
        rw [← hib]
        exact Calls.regrown_of (shas_any B cb n.b o _ ((HN.out.hb.later hbw1).later (below_regrown W1 d os)))
      rw [hhs, hib] at hno hnx
      have CH := Lib.hid cH
      have CI := Lib.hid cI
      have NO := Lib.hid hno
      have NX := Lib.hid hnx
      have PV := Lib.hid hprev
      have HW1 := Lib.hid hW1
      clear hcA hno hnx hprev cH cI hW1 hB1 hob hx hy hgn ho hhs hib
      have hcs : (hs = false) ∨ (hs = true ∧ decide (o < 0) = true ∧ o < 0) ∨ (hs = true ∧ decide (o < 0) = false ∧ 0 ≤ o ∧ decide (255 < o) = true ∧ 255 < o) ∨ (hs = true ∧ decide (o < 0) = false ∧ 0 ≤ o ∧ decide (255 < o) = false ∧ o ≤ 255 ∧ ib = true) ∨ (hs = true ∧ decide (o < 0) = false ∧ 0 ≤ o ∧ decide (255 < o) = false ∧ o ≤ 255 ∧ ib = false) := by
        cases hs
        · exact .inl rfl
        · by_cases h1 : o < 0
          · exact .inr (.inl ⟨rfl, decide_eq_true h1, h1⟩)
          · by_cases h2 : 255 < o
            · exact .inr (.inr (.inl ⟨rfl, decide_eq_false h1, by omega, decide_eq_true h2, h2⟩))
            · cases ib
              · exact .inr (.inr (.inr (.inr ⟨rfl, decide_eq_false h1, by omega, decide_eq_false h2, by omega, rfl⟩)))
              · exact .inr (.inr (.inr (.inl ⟨rfl, decide_eq_false h1, by omega, decide_eq_false h2, by omega, rfl⟩)))
      rcases hcs with rfl | ⟨rfl, d1, d2⟩ | ⟨rfl, d1, d2, d3, d4⟩ | ⟨rfl, d1, d2, d3, d4, rfl⟩ | ⟨rfl, d1, d2, d3, d4, rfl⟩
      · have HNO := Lib.hid (NO.out (fun h => by have := h.1; cases this))
        go_wp2_with fail
        rw [HW1.out]
        refine wp_region_quiet_below (by kernel_rfl) (by kernel_rfl) ?_
        repeat (first | go_big_quiet_step (first | exact CH.out _ _ | exact CI.out _ _) | quiet_step (first | exact CH.out _ _ | exact CI.out _ _))
        refine wpQuiet_nil ?_
        intro _ hw'
        obtain ⟨⟨dq, osq⟩, hw''⟩ := hw'
        subst hw''
        go_wp2
        go_ret
        exact ⟨by rw [HR.out, HNO.out]; rfl, below_on hb0 (below_on hbw1 (below_regrown W1 dq osq))⟩
      · have HNO := Lib.hid (NO.out (fun h => by have := h.2.1.1; omega))
        go_wp2_with fail
        rw [HW1.out]
        refine wp_region_quiet_below (by kernel_rfl) (by kernel_rfl) ?_
        repeat (first | go_big_quiet_step (first | exact CH.out _ _ | exact CI.out _ _) | quiet_step (first | exact CH.out _ _ | exact CI.out _ _))
        refine wpQuiet_nil ?_
        intro _ hw'
        obtain ⟨⟨dq, osq⟩, hw''⟩ := hw'
        subst hw''
        go_wp2
        go_ret
        exact ⟨by rw [HR.out, HNO.out]; rfl, below_on hb0 (below_on hbw1 (below_regrown W1 dq osq))⟩
      · have HNO := Lib.hid (NO.out (fun h => by have := h.2.1.2; omega))
        go_wp2_with fail
        rw [HW1.out]
        refine wp_region_quiet_below (by kernel_rfl) (by kernel_rfl) ?_
        repeat (first | go_big_quiet_step (first | exact CH.out _ _ | exact CI.out _ _) | quiet_step (first | exact CH.out _ _ | exact CI.out _ _))
        refine wpQuiet_nil ?_
        intro _ hw'
        obtain ⟨⟨dq, osq⟩, hw''⟩ := hw'
        subst hw''
        go_wp2
        go_ret
        exact ⟨by rw [HR.out, HNO.out]; rfl, below_on hb0 (below_on hbw1 (below_regrown W1 dq osq))⟩
      · have HNO := Lib.hid (NO.out (fun h => by have := h.2.2.1; cases this))
        go_wp2_with fail
        rw [HW1.out]
        refine wp_region_quiet_below (by kernel_rfl) (by kernel_rfl) ?_
        repeat (first | go_big_quiet_step (first | exact CH.out _ _ | exact CI.out _ _) | quiet_step (first | exact CH.out _ _ | exact CI.out _ _))
        refine wpQuiet_nil ?_
        intro _ hw'
        obtain ⟨⟨dq, osq⟩, hw''⟩ := hw'
        subst hw''
        go_wp2
        go_ret
        exact ⟨by rw [HR.out, HNO.out]; rfl, below_on hb0 (below_on hbw1 (below_regrown W1 dq osq))⟩
      · cases k with
        | zero =>
          simp only [Nat.zero_mul, Nat.add_zero] at e0 e1 e2 e3
          have HT := Lib.hid (NX.out rfl ⟨d2, d4⟩ rfl (fun h => by omega))
          go_wp2_with fail
          rw [HW1.out]
          refine wp_region_quiet_below (by kernel_rfl) (by kernel_rfl) ?_
          repeat (first | go_big_quiet_step (first | exact CH.out _ _ | exact CI.out _ _) | quiet_step (first | exact CH.out _ _ | exact CI.out _ _))
          refine wpQuiet_nil ?_
          intro _ hw'
          obtain ⟨⟨dq, osq⟩, hw''⟩ := hw'
          subst hw''
          go_wp2_with fail
          go_roundw
          case rel => exact ⟨_, by omega, by first | rfl | go_num, HT.out, below_on hbw1 (below_regrown W1 dq osq)⟩
          case measure => simp [intOf]; omega
        | succ m =>
          have hm1 : ((m + 1 : Nat) : Int) - 1 = (m : Int) := by omega
          have hj0 : (0 : Int) ≤ (m : Int) := by omega
          have hj1 : (m : Int) < (n.ws.length : Int) := by omega
          have hg : decide (((m + 1 : Nat) : Int) > 0) = true := decide_eq_true (by omega)
          have f1 := PV.out m rfl
          obtain ⟨po, hpo⟩ : ∃ po, Nt.obj n.ws m = po := ⟨_, rfl⟩
          rw [hpo] at f1
          have k7 : ∀ d os, (Sort.grow (redrawn W1 d) os).cell? ⟨b, off + m * 4 + 2, none⟩ = some (.int .i64 po) := cell_regrown (cell_later hbn f1)
          have HPO := Lib.hid hpo
          clear f1 hpo
          by_cases hge : o ≤ po
          · have d5 : decide (o ≤ po) = true := decide_eq_true hge
            have HNO := Lib.hid (NO.out (fun h => by have h2 := h.2.2.2 (by omega); rw [show m + 1 - 1 = m from rfl, HPO.out] at h2; omega))
            go_wp2_with fail
            rw [HW1.out]
            refine wp_region_quiet_below (by kernel_rfl) (by kernel_rfl) ?_
            repeat (first | go_big_quiet_step (first | exact CH.out _ _ | exact CI.out _ _) | quiet_step (first | exact CH.out _ _ | exact CI.out _ _))
            refine wpQuiet_nil ?_
            intro _ hw'
            obtain ⟨⟨dq, osq⟩, hw''⟩ := hw'
            subst hw''
            go_wp2
            go_ret
            exact ⟨by rw [HR.out, HNO.out]; rfl, below_on hb0 (below_on hbw1 (below_regrown W1 dq osq))⟩
          · have d5 : decide (o ≤ po) = false := decide_eq_false hge
            have HT := Lib.hid (NX.out rfl ⟨d2, d4⟩ rfl (fun _ => by rw [show m + 1 - 1 = m from rfl, HPO.out]; omega))
            go_wp2_with fail
            rw [HW1.out]
            refine wp_region_quiet_below (by kernel_rfl) (by kernel_rfl) ?_
            repeat (first | go_big_quiet_step (first | exact CH.out _ _ | exact CI.out _ _) | quiet_step (first | exact CH.out _ _ | exact CI.out _ _))
            refine wpQuiet_nil ?_
            intro _ hw'
            obtain ⟨⟨dq, osq⟩, hw''⟩ := hw'
            subst hw''
            go_wp2_with fail
            go_roundw
            case rel => exact ⟨_, by omega, by first | rfl | go_num, HT.out, below_on hbw1 (below_regrown W1 dq osq)⟩
            case measure => simp [intOf]; omega
    · have hkl : k = n.ws.length := by omega
      have hok : Nt.wsOk n = true := (Nt.wsOk_iff n).2 (by rw [← hkl]; exact HALL.out)
      have HOK := Lib.hid hok
      clear hok
      subst hkl
      go_wp2
      go_ret
      exact ⟨by rw [HR.out, HOK.out]; rfl, below_on hb0 hbw⟩

end Go.Proofs.Ytbbmngabbbehcaa
namespace Go.Proofs.Ytbbmngabbbehcaa
open Go.RowKit

/-- All that lay is as it was, but for the block g. -/
structure Only (g : Nat) (w w' : World) : Prop where
  os : w'.os = w.os
  tape : w'.tape = w.tape
  output : w'.output = w.output
  size : w.heap.size ≤ w'.heap.size
  block : ∀ k, k < w.heap.size → k ≠ g → w'.heap[k]? = w.heap[k]?
section
variable {g : Nat} {w w1 w2 : World}
theorem Only.refl (g : Nat) (w : World) : Only g w w := ⟨rfl, rfl, rfl, Nat.le_refl _, fun _ _ _ => rfl⟩
theorem Only.of_below (g : Nat) (h : Below w.heap.size w w1) : Only g w w1 := ⟨h.os, h.tape, h.output, h.size, fun k hk _ => h.block k hk⟩
theorem Only.on (h : Only g w w1) (h' : Only g w1 w2) : Only g w w2 :=
  ⟨h'.os.trans h.os, h'.tape.trans h.tape, h'.output.trans h.output, Nat.le_trans h.size h'.size, fun k hk hg => (h'.block k (by have := h.size; omega) hg).trans (h.block k hk hg)⟩
theorem Only.below (h : Only g w w1) (hb : Below w1.heap.size w1 w2) : Only g w w2 := h.on (Only.of_below g hb)
theorem Only.set (h : Only g w w1) (i : Nat) (u : Value) : Only g w (w1.setCell ⟨g, i, none⟩ u) :=
  ⟨h.os, h.tape, h.output, by simpa [World.setCell] using h.size, fun k hk hg => (Below.heap_setCell w1 ⟨g, i, none⟩ u k hg).trans (h.block k hk hg)⟩
theorem Only.setNew (h : Only g w w1) {b : Nat} (hb : w.heap.size ≤ b) (i : Nat) (u : Value) : Only g w (w1.setCell ⟨b, i, none⟩ u) :=
  ⟨h.os, h.tape, h.output, by simpa [World.setCell] using h.size, fun k hk hg => (Below.heap_setCell w1 ⟨b, i, none⟩ u k (by show k ≠ b; omega)).trans (h.block k hk hg)⟩
theorem Only.to_below {B : Nat} (h : Only g w w1) (hB : B ≤ w.heap.size) (hg : B ≤ g) : Below B w w1 := ⟨h.os, h.tape, h.output, h.size, fun k hk => h.block k (by omega) (by omega)⟩
theorem Only.blk (h : Only g w w1) {b : Nat} {t : TypeId} {cs : Array Value} (hB : Blk w b t cs) (hg : b ≠ g) : Blk w1 b t cs := (h.block b hB.lt hg).trans hB
theorem Only.own (h : Only g w w1) {base size n : Nat} {e : TypeId} {v : Value} {xs : List Value} (ho : w.ownsRow base e size v n xs) (hg : g < base) : w1.ownsRow base e size v n xs :=
  own_stays ho (fun k hk => h.block k (own_lt ho k hk) (by have := own_ge ho k hk; omega))
/-- An append to a row of the call's own. -/
theorem Only.grown (h : Only g w w1) {row : Option Nat} (hg : w1.grownBy w2 row) (hr : ∀ k, row = some k → w.heap.size ≤ k) : Only g w w2 :=
  ⟨hg.os.trans h.os, hg.tape.trans h.tape, hg.output.trans h.output, Nat.le_trans h.size hg.size, fun k hk hn => (hg.block k (by have := h.size; omega) (fun e => by have := hr k e.symm; omega)).trans (h.block k hk hn)⟩
def isU8 : Value → Bool
  | .int .u8 _ => true
  | _ => false
/-- A list of bytes doesn't lie in a block that holds none. -/
theorem OneB.only {A : Option Addr} {c : Nat} {l : List Int} (h : OneB w A c l) (hO : Only g w w1) {t : TypeId} {cs : Array Value} (hB : Blk w g t cs) (hc : ∀ x ∈ cs.toList, isU8 x = false) : OneB w1 A c l := by
  refine ⟨h.le, h.cap, h.noA, fun hne => ?_, h.byte⟩
  obtain ⟨b, off, hA, hl⟩ := h.lies hne
  have hbg : b ≠ g := fun e => by
    subst e
    have hl0 : l ≠ [] := fun e => hne (by rw [e]; rfl)
    obtain ⟨x, r, rfl⟩ := List.exists_cons_of_ne_nil hl0
    have h1 := hl 0 (.int .u8 x) rfl
    rw [Nat.add_zero, cell_of_row w b off cs t (0, 0) hB] at h1
    have h2 := hc _ (Array.mem_toList_iff.2 (Array.mem_of_getElem? h1))
    cases h2
  refine ⟨b, off, hA, fun j u hu => ?_⟩
  have h1 := hl j u hu
  exact (World.cell?_of_block (a := ⟨b, off + j, none⟩) (hO.block b (World.block_lt_of_cell? _ _ h1) hbg)).trans h1
end

namespace Wi
variable {α β : Type}
/-- A number at a place: it, and the place behind it. -/
def pnum (l : List Int) (a : Nat) : Option (Nat × Nat) := if (Pk.num (l.drop a)).2.2 = 0 then some ((Pk.num (l.drop a)).1.toNat, a + (Pk.num (l.drop a)).2.1.toNat) else none
theorem pnum_le {l : List Int} {a n b : Nat} (hl : ∀ x ∈ l, isB x) (ha : a ≤ l.length) (h : pnum l a = some (n, b)) : a < b ∧ b ≤ l.length ∧ n ≤ 9223372036854775807 := by
  unfold pnum at h
  rcases Pk.num_ways (l.drop a) (fun x hx => hl x (List.mem_of_mem_drop hx)) with (hw | hw) | ⟨v, k, hw, hk1, hkl, hk9, hv⟩
  · rw [hw] at h; simp at h
  · rw [hw] at h; simp at h
  · rw [hw] at h
    simp at h
    rw [List.length_drop] at hkl
    omega
/-- A thing n times. -/
def rep (p : Nat → Option (α × Nat)) : Nat → Nat → Option (List α × Nat)
  | 0, a => some ([], a)
  | n + 1, a => (p a).bind fun x => (rep p n x.2).map fun r => (x.1 :: r.1, r.2)
/-- Two numbers. -/
def ptwo (l : List Int) (a : Nat) : Option ((Int × Int) × Nat) := (pnum l a).bind fun x => (pnum l x.2).map fun y => (((x.1 : Int), (y.1 : Int)), y.2)
/-- A stamp: its node comes first. -/
def pst (l : List Int) (a : Nat) : Option ((Int × Int) × Nat) := (ptwo l a).map fun x => ((x.1.2, x.1.1), x.2)
/-- A thing that must be as it must be. -/
def such (f : α → Bool) (r : Option (α × Nat)) : Option (α × Nat) := r.bind fun x => if f x.1 then some x else none
/-- A list: how many, and they. -/
def plist (p : Nat → Option (α × Nat)) (l : List Int) (a : Nat) : Option (List α × Nat) := (pnum l a).bind fun x => rep p x.1 x.2
def pvec (l : List Int) (a : Nat) : Option (List (Int × Int) × Nat) := such Ve.fmd (plist (pst l) l a)
def pset (l : List Int) (a : Nat) : Option (List (Int × Int) × Nat) := such Sp.fmd (plist (ptwo l) l a)
/-- A write: object, node, count, gone. -/
def pwr (l : List Int) (a : Nat) : Option (Wr × Nat) := (pnum l a).bind fun o => (pnum l o.2).bind fun n => (pnum l n.2).bind fun c => (pnum l c.2).bind fun g => if g.1 ≤ 1 then some (((c.1 : Int), (n.1 : Int), (o.1 : Int), decide (g.1 = 1)), g.2) else none
def pnote (l : List Int) (a : Nat) : Option (Note × Nat) := such Nt.fmd ((pvec l a).bind fun s => (pvec l s.2).bind fun e => (pset l e.2).bind fun b => (plist (pwr l) l b.2).map fun v => (⟨s.1, e.1, b.1, v.1⟩, v.2))
/-- A row. -/
def prow (l : List Int) (most : Int) (a : Nat) : Option (List Int × Nat) := if (Pk.row (l.drop a) most).2.2 = 0 then some ((Pk.row (l.drop a) most).1, a + (Pk.row (l.drop a) most).2.1.toNat) else none
theorem prow_le {l : List Int} {most : Int} {a b : Nat} {q : List Int} (hl : ∀ x ∈ l, isB x) (ha : a ≤ l.length) (h : prow l most a = some (q, b)) : a < b ∧ b ≤ l.length ∧ (∀ x ∈ q, isB x) := by
  unfold prow at h
  rcases Pk.row_ways (l.drop a) most (fun x hx => hl x (List.mem_of_mem_drop hx)) with ⟨e, he, hr⟩ | ⟨q', j, hr, _, hj, hb, hq⟩
  · rw [hr] at h
    simp at h
    omega
  · rw [hr] at h
    simp at h
    obtain ⟨rfl, rfl⟩ := h
    rw [List.length_drop] at hj
    exact ⟨by omega, by omega, hb⟩
end Wi

/-- A body: its object, its stamp's count and node, its value. -/
structure Bd where
  o : Int
  c : Int
  n : Int
  v : List Int
namespace Wi
/-- Is a body as it must be? -/
def bright (x : Bd) : Bool := decide (0 ≤ x.o) && (decide (x.o ≤ 255) && (St.rgt x.c x.n && decide (x.v.length ≤ 256)))
def pbody (l : List Int) (a : Nat) : Option (Bd × Nat) := such bright ((pnum l a).bind fun o => (pnum l o.2).bind fun n => (pnum l n.2).bind fun c => (prow l 256 c.2).map fun v => (⟨(o.1 : Int), (c.1 : Int), (n.1 : Int), v.1⟩, v.2))
end Wi

end Go.Proofs.Ytbbmngabbbehcaa
