/-
  What the functions of package stamp (Compare, and Right beside it), those of telltaleref01, and cmp.Compare at int answer, for all arguments; each leaves the memory that was there as it was.
  What telltaleref04's Merge answers.
  What is asked of each of note's functions (its contract), as one structure. With it: the fixed fact 'alive'.
  Plain mathematics of notes: a note seen through an interest is formed.
-/
import Derived.Test.YtoaclofobfaflaaProg
import Derived.Test.YtoaclofobfaflaaG05
import Derived.Tactics
import Derived.Tactics2
import Derived.WalkKit
import Derived.WalkSpells
import Derived.OwnWalk
import Derived.Deep.QuietTactic
import Derived.BigQuiet
import Derived.Deep.RegionHeld3
import Derived.KernelRfl
import Derived.Lib.Hide
import Derived.Test.YtoaclofobfaflaaG16
namespace Go.Proofs.Ytoaclofobfaflaa
open Go.RowKit

theorem isNaN_any (a : Int) (w : World) : Calls Try.prog 99 #[.int .i64 a] w fun e w' => e = .returned (.bool false) ∧ w = w' := by
  go_enter Try.func99, Try.ntmps99
  go_wp2
  go_ret
  simp

theorem cmp_any (a b : Int) (w : World) : Calls Try.prog 88 #[.int .i64 a, .int .i64 b] w fun e w' => e = .returned (.int .i64 (St.cmpI a b)) ∧ w = w' := by
  rcases Int.lt_trichotomy a b with h | h | h
  · go_enter Try.func88, Try.ntmps88
    go_wp2_with (go_at_call 99; refine (isNaN_any _ _).mono ?_; rintro e w' ⟨rfl, rfl⟩)
    go_ret
    rw [St.cmpI_lt h]; exact ⟨rfl, rfl⟩
  · subst h
    go_enter Try.func88, Try.ntmps88
    go_wp2_with (go_at_call 99; refine (isNaN_any _ _).mono ?_; rintro e w' ⟨rfl, rfl⟩)
    go_ret
    rw [St.cmpI_eq rfl]; exact ⟨rfl, rfl⟩
  · have h2 : ¬ a < b := by omega
    go_enter Try.func88, Try.ntmps88
    go_wp2_with (go_at_call 99; refine (isNaN_any _ _).mono ?_; rintro e w' ⟨rfl, rfl⟩)
    go_ret
    rw [St.cmpI_gt h]; exact ⟨rfl, rfl⟩

/-- stamp.Compare. -/
theorem compare_any (c n c' n' : Int) (w : World) :
    Calls Try.prog 89 #[.agg #[.int .i64 c, .int .i64 n], .agg #[.int .i64 c', .int .i64 n']] w fun e w' => e = .returned (.int .i64 (St.cmpS c n c' n')) ∧ Below w.heap.size w w' := by
  rcases Int.lt_trichotomy c c' with h | h | h
  · have h1 : (St.cmpI c c' != 0) = true := by rw [St.cmpI_lt h]; rfl
    go_enter Try.func89, Try.ntmps89
    go_wp2_with (go_at_call 88; refine (cmp_any _ _ _).mono ?_; rintro e w' ⟨rfl, rfl⟩)
    go_ret
    rw [St.cmpI_lt h, St.cmpS_lt h]
    exact ⟨rfl, by repeat (first | exact Below.refl _ _ | exact Nat.le_refl _ | (apply Below.drew) | (refine Below.alloc ?_ ?_ _) | (refine Below.setCell ?_ ?_ _) | (simp; done) | (simp; omega))⟩
  · subst h
    have h1 : (St.cmpI c c != 0) = false := by rw [St.cmpI_eq rfl]; rfl
    go_enter Try.func89, Try.ntmps89
    go_wp2_with (go_at_call 88; refine (cmp_any _ _ _).mono ?_; rintro e w' ⟨rfl, rfl⟩)
    go_ret
    rw [St.cmpS_eq rfl]
    exact ⟨rfl, by repeat (first | exact Below.refl _ _ | exact Nat.le_refl _ | (apply Below.drew) | (refine Below.alloc ?_ ?_ _) | (refine Below.setCell ?_ ?_ _) | (simp; done) | (simp; omega))⟩
  · have h1 : (St.cmpI c c' != 0) = true := by rw [St.cmpI_gt h]; rfl
    go_enter Try.func89, Try.ntmps89
    go_wp2_with (go_at_call 88; refine (cmp_any _ _ _).mono ?_; rintro e w' ⟨rfl, rfl⟩)
    go_ret
    rw [St.cmpI_gt h, St.cmpS_gt h]
    exact ⟨rfl, by repeat (first | exact Below.refl _ _ | exact Nat.le_refl _ | (apply Below.drew) | (refine Below.alloc ?_ ?_ _) | (refine Below.setCell ?_ ?_ _) | (simp; done) | (simp; omega))⟩

theorem rcompare_lt (c n c' n' : Int) (w : World) (h : c < c') :
    Calls Try.prog 65 #[.agg #[.int .i64 c, .int .i64 n], .agg #[.int .i64 c', .int .i64 n']] w fun e w' => e = .returned (.int .i64 (St.cmpS c n c' n')) ∧ Below w.heap.size w w' := by
  have h0 : St.cmpS c n c' n' = -1 := by (first | rw [St.cmpS_lt (by omega)] | rw [St.cmpS_gt (by omega)] | (rw [St.cmpS_eq (by omega)]; first | exact St.cmpI_lt (by omega) | exact St.cmpI_eq (by omega) | exact St.cmpI_gt (by omega)))
  have H0 := Lib.hid h0; clear h0
  have hd : decide (c < c') = true := decide_eq_true h
  go_enter Try.func65, Try.ntmps65
  go_wp2
  go_ret
  rw [H0.out]
  exact ⟨rfl, by repeat (first | exact Below.refl _ _ | exact Nat.le_refl _ | (apply Below.drew) | (refine Below.alloc ?_ ?_ _) | (refine Below.setCell ?_ ?_ _) | (simp; done) | (simp; omega))⟩

theorem rcompare_gt (c n c' n' : Int) (w : World) (h : c' < c) :
    Calls Try.prog 65 #[.agg #[.int .i64 c, .int .i64 n], .agg #[.int .i64 c', .int .i64 n']] w fun e w' => e = .returned (.int .i64 (St.cmpS c n c' n')) ∧ Below w.heap.size w w' := by
  have h0 : St.cmpS c n c' n' = 1 := by (first | rw [St.cmpS_lt (by omega)] | rw [St.cmpS_gt (by omega)] | (rw [St.cmpS_eq (by omega)]; first | exact St.cmpI_lt (by omega) | exact St.cmpI_eq (by omega) | exact St.cmpI_gt (by omega)))
  have H0 := Lib.hid h0; clear h0
  have hd : decide (c < c') = false := decide_eq_false (by omega)
  have hd2 : (c == c') = false := beq_eq_false_iff_ne.2 (by omega)
  go_enter Try.func65, Try.ntmps65
  go_wp2
  go_ret
  rw [H0.out]
  exact ⟨rfl, by repeat (first | exact Below.refl _ _ | exact Nat.le_refl _ | (apply Below.drew) | (refine Below.alloc ?_ ?_ _) | (refine Below.setCell ?_ ?_ _) | (simp; done) | (simp; omega))⟩

theorem rcompare_nlt (c n c' n' : Int) (w : World) (h : c = c') (hn : n < n') :
    Calls Try.prog 65 #[.agg #[.int .i64 c, .int .i64 n], .agg #[.int .i64 c', .int .i64 n']] w fun e w' => e = .returned (.int .i64 (St.cmpS c n c' n')) ∧ Below w.heap.size w w' := by
  have h0 : St.cmpS c n c' n' = -1 := by (first | rw [St.cmpS_lt (by omega)] | rw [St.cmpS_gt (by omega)] | (rw [St.cmpS_eq (by omega)]; first | exact St.cmpI_lt (by omega) | exact St.cmpI_eq (by omega) | exact St.cmpI_gt (by omega)))
  have H0 := Lib.hid h0; clear h0
  have hd : decide (c < c') = false := decide_eq_false (by omega)
  have hd2 : (c == c') = true := beq_iff_eq.2 h
  have hd3 : decide (n < n') = true := decide_eq_true hn
  clear h
  go_enter Try.func65, Try.ntmps65
  go_wp2
  go_ret
  rw [H0.out]
  exact ⟨rfl, by repeat (first | exact Below.refl _ _ | exact Nat.le_refl _ | (apply Below.drew) | (refine Below.alloc ?_ ?_ _) | (refine Below.setCell ?_ ?_ _) | (simp; done) | (simp; omega))⟩

theorem rcompare_ngt (c n c' n' : Int) (w : World) (h : c = c') (hn : n' < n) :
    Calls Try.prog 65 #[.agg #[.int .i64 c, .int .i64 n], .agg #[.int .i64 c', .int .i64 n']] w fun e w' => e = .returned (.int .i64 (St.cmpS c n c' n')) ∧ Below w.heap.size w w' := by
  have h0 : St.cmpS c n c' n' = 1 := by (first | rw [St.cmpS_lt (by omega)] | rw [St.cmpS_gt (by omega)] | (rw [St.cmpS_eq (by omega)]; first | exact St.cmpI_lt (by omega) | exact St.cmpI_eq (by omega) | exact St.cmpI_gt (by omega)))
  have H0 := Lib.hid h0; clear h0
  have hd : decide (c < c') = false := decide_eq_false (by omega)
  have hd2 : (c == c') = true := beq_iff_eq.2 h
  have hd3 : decide (n < n') = false := decide_eq_false (by omega)
  have hd4 : (n == n') = false := beq_eq_false_iff_ne.2 (by omega)
  clear h
  go_enter Try.func65, Try.ntmps65
  go_wp2
  go_ret
  rw [H0.out]
  exact ⟨rfl, by repeat (first | exact Below.refl _ _ | exact Nat.le_refl _ | (apply Below.drew) | (refine Below.alloc ?_ ?_ _) | (refine Below.setCell ?_ ?_ _) | (simp; done) | (simp; omega))⟩

theorem rcompare_eq (c n c' n' : Int) (w : World) (h : c = c') (hn : n = n') :
    Calls Try.prog 65 #[.agg #[.int .i64 c, .int .i64 n], .agg #[.int .i64 c', .int .i64 n']] w fun e w' => e = .returned (.int .i64 (St.cmpS c n c' n')) ∧ Below w.heap.size w w' := by
  have h0 : St.cmpS c n c' n' = 0 := by (first | rw [St.cmpS_lt (by omega)] | rw [St.cmpS_gt (by omega)] | (rw [St.cmpS_eq (by omega)]; first | exact St.cmpI_lt (by omega) | exact St.cmpI_eq (by omega) | exact St.cmpI_gt (by omega)))
  have H0 := Lib.hid h0; clear h0
  have hd : decide (c < c') = false := decide_eq_false (by omega)
  have hd2 : (c == c') = true := beq_iff_eq.2 h
  have hd3 : decide (n < n') = false := decide_eq_false (by omega)
  have hd4 : (n == n') = true := beq_iff_eq.2 hn
  clear h hn
  go_enter Try.func65, Try.ntmps65
  go_wp2
  go_ret
  rw [H0.out]
  exact ⟨rfl, by repeat (first | exact Below.refl _ _ | exact Nat.le_refl _ | (apply Below.drew) | (refine Below.alloc ?_ ?_ _) | (refine Below.setCell ?_ ?_ _) | (simp; done) | (simp; omega))⟩

/-- telltaleref01's Compare. -/
theorem rcompare_any (c n c' n' : Int) (w : World) :
    Calls Try.prog 65 #[.agg #[.int .i64 c, .int .i64 n], .agg #[.int .i64 c', .int .i64 n']] w fun e w' => e = .returned (.int .i64 (St.cmpS c n c' n')) ∧ Below w.heap.size w w' := by
  rcases Int.lt_trichotomy c c' with h | h | h
  · exact rcompare_lt c n c' n' w h
  · rcases Int.lt_trichotomy n n' with hn | hn | hn
    · exact rcompare_nlt c n c' n' w h hn
    · exact rcompare_eq c n c' n' w h hn
    · exact rcompare_ngt c n c' n' w h hn
  · exact rcompare_gt c n c' n' w h

end Go.Proofs.Ytoaclofobfaflaa
namespace Go.Proofs.Ytoaclofobfaflaa
open Go.RowKit Fb

namespace Nt
/-- The thrifty start of a note behind another one. -/
def thrifty (a b : Note) (i : Nat) : Int := if Ve.cnt a.e i < Ve.cnt b.s i then Ve.cnt b.s i else Ve.cnt a.s i
def thriftyTo (a b : Note) (k : Nat) (i : Nat) : Int := if i < k ∧ Ve.cnt a.e i < Ve.cnt b.s i then Ve.cnt b.s i else Ve.cnt a.s i
/-- The write of an object that both have, the newer one. -/
def pick (a b : Note) (o : Nat) : Wr × Bool :=
  let v := at_ a.ws o
  let x := at_ b.ws o
  (if x.2 = true ∧ (v.2 = false ∨ St.cmpS v.1.1 v.1.2.1 x.1.1 x.1.2.1 < 0) then x.1 else v.1, v.2 || x.2)
def mergedTo (a b : Note) (blur : List (Int × Int)) : Nat → List Wr
  | 0 => []
  | k + 1 => mergedTo a b blur k ++ (if (pick a b k).2 = true ∧ Sp.inL blur k = false then [(pick a b k).1] else [])
/-- One note for two. -/
def merge (a b : Note) : Note × Int :=
  if fmd a = true ∧ fmd b = true then (⟨Ve.ofL (thrifty a b), Ve.joinL [a.e, b.e], Sp.joinS [a.b, b.b], mergedTo a b (Sp.joinS [a.b, b.b]) 256⟩, 0) else (noNote, 1)
theorem mergedTo_len (a b : Note) (bl : List (Int × Int)) : ∀ k, (mergedTo a b bl k).length ≤ k
  | 0 => Nat.le_refl _
  | k + 1 => by
    have := mergedTo_len a b bl k
    unfold mergedTo
    split <;> simp <;> omega
theorem merged_yes {a b : Note} {bl : List (Int × Int)} {k : Nat} {p : Wr} (h : pick a b k = (p, true)) (hi : Sp.inL bl k = false) : mergedTo a b bl (k + 1) = mergedTo a b bl k ++ [p] := by
  show mergedTo a b bl k ++ (if (pick a b k).2 = true ∧ Sp.inL bl k = false then [(pick a b k).1] else []) = _
  rw [h, if_pos ⟨rfl, hi⟩]
theorem merged_none {a b : Note} {bl : List (Int × Int)} {k : Nat} {p : Wr} (h : pick a b k = (p, false)) : mergedTo a b bl (k + 1) = mergedTo a b bl k := by
  show mergedTo a b bl k ++ (if (pick a b k).2 = true ∧ Sp.inL bl k = false then [(pick a b k).1] else []) = _
  rw [h, if_neg (fun q => by cases q.1), List.append_nil]
theorem merged_blur {a b : Note} {bl : List (Int × Int)} {k : Nat} (hi : Sp.inL bl k = true) : mergedTo a b bl (k + 1) = mergedTo a b bl k := by
  show mergedTo a b bl k ++ (if (pick a b k).2 = true ∧ Sp.inL bl k = false then [(pick a b k).1] else []) = _
  rw [hi, if_neg (fun q => by cases q.2), List.append_nil]
theorem thrifty_start (a b : Note) (i : Nat) : Ve.cnt a.s i = thriftyTo a b 0 i := by unfold thriftyTo; rw [if_neg (by omega)]
theorem thrifty_here (a b : Note) (k : Nat) : thriftyTo a b k k = Ve.cnt a.s k := by unfold thriftyTo; rw [if_neg (by omega)]
theorem thrifty_yes (a b : Note) (k : Nat) (h : Ve.cnt a.e k < Ve.cnt b.s k) (i : Nat) : (if i = k then Ve.cnt b.s k else thriftyTo a b k i) = thriftyTo a b (k + 1) i := by
  unfold thriftyTo
  by_cases e : i = k
  · subst e; rw [if_pos rfl, if_pos ⟨by omega, h⟩]
  · rw [if_neg e]
    by_cases q : i < k ∧ Ve.cnt a.e i < Ve.cnt b.s i
    · rw [if_pos q, if_pos ⟨by omega, q.2⟩]
    · rw [if_neg q, if_neg (fun r => q ⟨by omega, r.2⟩)]
theorem thrifty_no (a b : Note) (k : Nat) (h : ¬ Ve.cnt a.e k < Ve.cnt b.s k) (i : Nat) : thriftyTo a b k i = thriftyTo a b (k + 1) i := by
  unfold thriftyTo
  by_cases q : i < k ∧ Ve.cnt a.e i < Ve.cnt b.s i
  · rw [if_pos q, if_pos ⟨by omega, q.2⟩]
  · rw [if_neg q, if_neg]
    rintro ⟨r1, r2⟩
    by_cases e : i = k
    · subst e; exact h r2
    · exact q ⟨by omega, r2⟩
theorem thrifty_end (a b : Note) (i : Nat) (hi : i < 64) : thriftyTo a b 64 i = thrifty a b i := by
  unfold thriftyTo thrifty
  by_cases q : Ve.cnt a.e i < Ve.cnt b.s i
  · rw [if_pos ⟨hi, q⟩, if_pos q]
  · rw [if_neg (fun r => q r.2), if_neg q]
end Nt

set_option maxRecDepth 100000 in
set_option maxHeartbeats 9600000 in
theorem nmerge_any (S E B V S' E' B' V' : Option Addr) (cs ce cb cv cs' ce' cb' cv' : Nat) (n m : Note) (w : World) (h1 : NoteAt w S E B V cs ce cb cv n) (h2 : NoteAt w S' E' B' V' cs' ce' cb' cv' m) :
    Calls Try.prog 28 #[.agg (noteCells S E B V cs ce cb cv n), .agg (noteCells S' E' B' V' cs' ce' cb' cv' m)] w (AnsNE (Nt.merge n m).1 (Nt.merge n m).2 w) := by
  obtain ⟨i0, hI, hZ0, hZ1, hZ2⟩ := info_parts infoWr
  obtain ⟨W, hW⟩ : ∃ W, ((w.alloc (.cells (noteCells S E B V cs ce cb cv n) 26)).alloc (.cells (noteCells S' E' B' V' cs' ce' cb' cv' m) 26)).alloc (.cells #[.slice none 0 0, .slice none 0 0, .slice none 0 0, .slice none 0 0] 26) = W := ⟨_, rfl⟩
  have hb0 : Below w.heap.size w W := by rw [← hW]; exact below_new (below_new (below_new (Below.refl _ _) _) _) _
  have hB0 : Blk W w.heap.size 26 (noteCells S E B V cs ce cb cv n) := by rw [← hW]; exact ((Blk.new w _ _).alloc _).alloc _
  have hB1 : Blk W (w.heap.size + 1) 26 (noteCells S' E' B' V' cs' ce' cb' cv' m) := by
    rw [← hW, show w.heap.size + 1 = (w.alloc (.cells (noteCells S E B V cs ce cb cv n) 26)).heap.size from by simp]
    exact (Blk.new _ _ _).alloc _
  have hB2 : Blk W (w.heap.size + 2) 26 #[.slice none 0 0, .slice none 0 0, .slice none 0 0, .slice none 0 0] := by
    rw [← hW, show w.heap.size + 2 = ((w.alloc (.cells (noteCells S E B V cs ce cb cv n) 26)).alloc (.cells (noteCells S' E' B' V' cs' ce' cb' cv' m) 26)).heap.size from by simp]
    exact Blk.new _ _ _
  obtain ⟨c0, c1, c2, c3⟩ := note_cells hB0
  obtain ⟨d0, d1, d2, d3⟩ := note_cells hB1
  have g0 := c0
  have g1 := c1
  have g2 := c2
  have g3 := c3
  rw [← hW] at g0 g1 g2 g3
  have HN := Lib.hid (h1.later hb0)
  have HM := Lib.hid (h2.later hb0)
  have HB0 := Lib.hid hB0
  have HB1 := Lib.hid hB1
  have HB2 := Lib.hid hB2
  have N0 := Lib.hid (nformed_any S E B V cs ce cb cv n W (h1.later hb0))
  have N1 := Lib.hid (fun wx (hb : Below W.heap.size W wx) => nformed_any S' E' B' V' cs' ce' cb' cv' m wx (HM.out.later hb))
  have HT := Lib.hid (show Nt.merge n m = if Nt.fmd n = true ∧ Nt.fmd m = true then (⟨Ve.ofL (Nt.thrifty n m), Ve.joinL [n.e, m.e], Sp.joinS [n.b, m.b], Nt.mergedTo n m (Sp.joinS [n.b, m.b]) 256⟩, 0) else (noNote, 1) from rfl)
  obtain ⟨x0, hx0⟩ : ∃ x, Nt.fmd n = x := ⟨_, rfl⟩
  obtain ⟨x1, hx1⟩ : ∃ x, Nt.fmd m = x := ⟨_, rfl⟩
  rw [hx0] at N0 HT
  rw [hx1] at N1 HT
  have HW := Lib.hid hW
  clear hW hB0 hB1 hB2 h1 h2 hx0 hx1
  cases x0 with
  | false =>
    have HT2 := Lib.hid (HT.out.trans (if_neg (fun h => by cases h.1)))
    go_enter Try.func28, Try.ntmps28
    go_wp2_with fail
    rw [HW.out]
    refine N0.out.mono ?_
    rintro e w1 ⟨rfl, b1⟩
    have hq := HB2.out.later b1
    obtain ⟨⟨z0, z1, z2, z3⟩, r0, r1, r2, r3⟩ := nt_cells hq
    have HQ := Lib.hid hq
    clear hq
    go_wp2
    refine bodyPost_ret (results_cell_tmp (p := 4) (t1 := 5) (ty := 26) rfl _ _ (w.heap.size + 2) 26 (noteCells none none none none 0 0 0 0 noNote) _ rfl (nt_puts HQ.out none none none none 0 0 0 0 noNote) Try.underlying26 rfl infoNt) rfl ?_
    rw [HT2.out]
    exact ⟨_, _, _, _, _, _, _, _, rfl, noNote_at _, below_puts (below_on hb0 b1) (by omega) _ _ _ _⟩
  | true =>
  cases x1 with
  | false =>
    have HT2 := Lib.hid (HT.out.trans (if_neg (fun h => by cases h.2)))
    go_enter Try.func28, Try.ntmps28
    go_wp2_with fail
    rw [HW.out]
    refine N0.out.mono ?_
    rintro e w1 ⟨rfl, b1⟩
    have y0 := cell_later b1 d0
    have y1 := cell_later b1 d1
    have y2 := cell_later b1 d2
    have y3 := cell_later b1 d3
    go_wp2_with fail
    refine (N1.out _ b1).mono ?_
    rintro e w2 ⟨rfl, b2⟩
    have bb2 := below_on b1 b2
    have hq := HB2.out.later bb2
    obtain ⟨⟨z0, z1, z2, z3⟩, r0, r1, r2, r3⟩ := nt_cells hq
    have HQ := Lib.hid hq
    clear hq
    go_wp2
    refine bodyPost_ret (results_cell_tmp (p := 4) (t1 := 5) (ty := 26) rfl _ _ (w.heap.size + 2) 26 (noteCells none none none none 0 0 0 0 noNote) _ rfl (nt_puts HQ.out none none none none 0 0 0 0 noNote) Try.underlying26 rfl infoNt) rfl ?_
    rw [HT2.out]
    exact ⟨_, _, _, _, _, _, _, _, rfl, noNote_at _, below_puts (below_on hb0 bb2) (by omega) _ _ _ _⟩
  | true =>
  have HT2 := Lib.hid (HT.out.trans (if_pos ⟨rfl, rfl⟩))
  clear HT
  go_enter Try.func28, Try.ntmps28
  go_wp2_with fail
  rw [HW.out]
  refine N0.out.mono ?_
  rintro e w1 ⟨rfl, b1⟩
  have y0 := cell_later b1 d0
  have y1 := cell_later b1 d1
  have y2 := cell_later b1 d2
  have y3 := cell_later b1 d3
  go_wp2_with fail
  refine (N1.out _ b1).mono ?_
  rintro e W4 ⟨rfl, b2⟩
  have bb2 := below_on b1 b2
  clear y0 y1 y2 y3 g0 g1 g2 g3 N0 N1
  go_wp2_with fail
  have p0 := cell_later bb2 c0
  have p1 := cell_later bb2 c1
  have p2 := cell_later bb2 d0
  have hn4 := HN.out.later bb2
  have hm4 := HM.out.later bb2
  have C0 := Lib.hid (fun wx (hb : Below W4.heap.size W4 wx) => counts_any S cs n.s wx hn4.hs.len (hn4.hs.later hb).stamps)
  have C1 := Lib.hid (fun wx (hb : Below W4.heap.size W4 wx) => counts_any E ce n.e wx hn4.he.len (hn4.he.later hb).stamps)
  have C2 := Lib.hid (fun wx (hb : Below W4.heap.size W4 wx) => counts_any S' cs' m.s wx hm4.hs.len (hm4.hs.later hb).stamps)
  clear hn4 hm4
  refine wp_region_facts2 12 (by kernel_rfl) (by kernel_rfl)
    (fun v => { tmps := #[.agg (noteCells S E B V cs ce cb cv n), .agg (noteCells S' E' B' V' cs' ce' cb' cv' m), .pointer (some ⟨w.heap.size, 0, none⟩), .pointer (some ⟨w.heap.size + 1, 0, none⟩), .pointer (some ⟨w.heap.size + 2, 0, none⟩), .int .i64 0, v 9, v 10, v 11, undef, undef, undef, undef, undef, undef, undef, undef, .agg #[.slice S n.s.length cs, .slice E n.e.length ce, .slice B n.b.length cb, .slice V n.ws.length cv], .bool true, .bool false, .bool false, .agg #[.slice S' m.s.length cs', .slice E' m.e.length ce', .slice B' m.b.length cb', .slice V' m.ws.length cv'], .bool true, .bool false, .bool false, undef, v 0, v 1, v 2, v 3, v 4, v 5, v 6, v 7, v 8, undef, undef, undef, undef, undef, undef, undef, undef, undef, undef, undef, undef, undef, undef, undef, undef, undef, undef, undef, undef, undef, undef, undef, undef, undef, undef, undef, undef, undef, undef, undef, undef, undef, undef, undef, undef, undef, undef, undef, undef, undef, undef, undef, undef, undef, undef, undef, undef, undef, undef, undef, undef, undef, undef, undef, undef, undef, undef, undef, undef, undef, undef, undef, undef, undef, undef, undef, undef, undef, undef, undef, undef, undef, undef, undef, undef, undef, undef, undef, undef, undef], defers := [] }) (fun _ => undef)
    (fun i x wx => match i with
      | 0 => x = .pointer (some ⟨w.heap.size, 0, none⟩)
      | 1 => x = .slice S n.s.length cs
      | 2 => x = .agg (Ve.arr (Ve.cnt n.s))
      | 3 => x = .pointer (some ⟨w.heap.size, 1, none⟩)
      | 4 => x = .slice E n.e.length ce
      | 5 => x = .agg (Ve.arr (Ve.cnt n.e))
      | 6 => x = .pointer (some ⟨w.heap.size + 1, 0, none⟩)
      | 7 => x = .slice S' m.s.length cs'
      | 8 => x = .agg (Ve.arr (Ve.cnt m.s))
      | 9 => ∃ g, x = .pointer (some ⟨g, 0, none⟩) ∧ Blk wx g 75 (Ve.arr fun _ => 0) ∧ W4.heap.size ≤ g
      | 10 => ∃ g, x = .pointer (some ⟨g, 0, none⟩) ∧ Blk wx g 75 (Ve.arr fun _ => 0) ∧ W4.heap.size ≤ g
      | 11 => ∃ g, x = .pointer (some ⟨g, 0, none⟩) ∧ Blk wx g 75 (Ve.arr fun _ => 0) ∧ W4.heap.size ≤ g
      | _ => True)
    (fun i j x y => (9 ≤ i ∧ i ≤ 11 ∧ 9 ≤ j ∧ j ≤ 11) → x ≠ y)
    (fun w1 w2 => Below w1.heap.size w1 w2) (fun h1 h2 => below_on h1 h2) (fun _ => Below.refl _ _) (Below.drew (Below.refl _ _)) ?stab ?step ?done
  case stab =>
    rintro i x w1 w2 h hb
    match i, h with
    | 0, h => exact h
    | 1, h => exact h
    | 2, h => exact h
    | 3, h => exact h
    | 4, h => exact h
    | 5, h => exact h
    | 6, h => exact h
    | 7, h => exact h
    | 8, h => exact h
    | 9, h => obtain ⟨g, h1, h2, h3⟩ := h; exact ⟨g, h1, h2.later hb, h3⟩
    | 10, h => obtain ⟨g, h1, h2, h3⟩ := h; exact ⟨g, h1, h2.later hb, h3⟩
    | 11, h => obtain ⟨g, h1, h2, h3⟩ := h; exact ⟨g, h1, h2.later hb, h3⟩
    | i + 12, _ => trivial
  case step =>
    intro i hi v w' hb hd
    match i, hi with
    | 0, _ =>
      refine wpOp_one rfl ?_
      clear hd
      go_wp2
      exact ⟨_, by simp [upd]; done, Below.refl _ _, rfl, fun j y _ _ => ⟨fun h => by omega, fun h => by omega⟩⟩
    | 1, _ =>
      have h0 : v 0 = _ := hd 0 (List.elem_iff.1 (by kernel_rfl))
      refine wpOp_one rfl ?_
      clear hd
      rw [h0]
      have q0 := cell_later hb p0
      go_wp2
      exact ⟨_, by simp [upd, h0]; done, Below.refl _ _, rfl, fun j y _ _ => ⟨fun h => by omega, fun h => by omega⟩⟩
    | 2, _ =>
      have h1 : v 1 = _ := hd 1 (List.elem_iff.1 (by kernel_rfl))
      refine wpOp_one rfl ?_
      clear hd
      rw [h1]
      go_wp2_with fail
      refine (C0.out _ hb).mono ?_
      rintro e w'' ⟨rfl, b⟩
      go_wp2
      exact ⟨_, by simp [upd, h1]; done, b, rfl, fun j y _ _ => ⟨fun h => by omega, fun h => by omega⟩⟩
    | 3, _ =>
      refine wpOp_one rfl ?_
      clear hd
      go_wp2
      exact ⟨_, by simp [upd]; done, Below.refl _ _, rfl, fun j y _ _ => ⟨fun h => by omega, fun h => by omega⟩⟩
    | 4, _ =>
      have h3 : v 3 = _ := hd 3 (List.elem_iff.1 (by kernel_rfl))
      refine wpOp_one rfl ?_
      clear hd
      rw [h3]
      have q0 := cell_later hb p1
      go_wp2
      exact ⟨_, by simp [upd, h3]; done, Below.refl _ _, rfl, fun j y _ _ => ⟨fun h => by omega, fun h => by omega⟩⟩
    | 5, _ =>
      have h4 : v 4 = _ := hd 4 (List.elem_iff.1 (by kernel_rfl))
      refine wpOp_one rfl ?_
      clear hd
      rw [h4]
      go_wp2_with fail
      refine (C1.out _ hb).mono ?_
      rintro e w'' ⟨rfl, b⟩
      go_wp2
      exact ⟨_, by simp [upd, h4]; done, b, rfl, fun j y _ _ => ⟨fun h => by omega, fun h => by omega⟩⟩
    | 6, _ =>
      refine wpOp_one rfl ?_
      clear hd
      go_wp2
      exact ⟨_, by simp [upd]; done, Below.refl _ _, rfl, fun j y _ _ => ⟨fun h => by omega, fun h => by omega⟩⟩
    | 7, _ =>
      have h6 : v 6 = _ := hd 6 (List.elem_iff.1 (by kernel_rfl))
      refine wpOp_one rfl ?_
      clear hd
      rw [h6]
      have q0 := cell_later hb p2
      go_wp2
      exact ⟨_, by simp [upd, h6]; done, Below.refl _ _, rfl, fun j y _ _ => ⟨fun h => by omega, fun h => by omega⟩⟩
    | 8, _ =>
      have h7 : v 7 = _ := hd 7 (List.elem_iff.1 (by kernel_rfl))
      refine wpOp_one rfl ?_
      clear hd
      rw [h7]
      go_wp2_with fail
      refine (C2.out _ hb).mono ?_
      rintro e w'' ⟨rfl, b⟩
      go_wp2
      exact ⟨_, by simp [upd, h7]; done, b, rfl, fun j y _ _ => ⟨fun h => by omega, fun h => by omega⟩⟩
    | 9, _ =>
      refine wpOp_one rfl ?_
      clear hd
      have hz := hb.size
      go_wp2
      refine ⟨_, by simp [upd]; done, below_new (Below.refl _ _) _, ⟨w'.heap.size, rfl, by rw [Ve.arr_zero]; exact Blk.new _ _ _, by omega⟩, fun j y hne hy => ?_⟩
      have hj : 9 ≤ j → j ≤ 11 → y ≠ .pointer (some ⟨w'.heap.size, 0, none⟩) := fun h1 h2 e => by
        have h3 : j = 9 ∨ j = 10 ∨ j = 11 := by omega
        rcases h3 with rfl | rfl | rfl <;> (obtain ⟨g, h4, h5, _⟩ := hy; rw [e] at h4; have h6 := h5.lt; injection h4 with h4; injection h4 with h4; injection h4 with h4; omega)
      exact ⟨fun h => (fun e => hj h.2.2.1 h.2.2.2 e.symm), fun h => hj h.1 h.2.1⟩
    | 10, _ =>
      refine wpOp_one rfl ?_
      clear hd
      have hz := hb.size
      go_wp2
      refine ⟨_, by simp [upd]; done, below_new (Below.refl _ _) _, ⟨w'.heap.size, rfl, by rw [Ve.arr_zero]; exact Blk.new _ _ _, by omega⟩, fun j y hne hy => ?_⟩
      have hj : 9 ≤ j → j ≤ 11 → y ≠ .pointer (some ⟨w'.heap.size, 0, none⟩) := fun h1 h2 e => by
        have h3 : j = 9 ∨ j = 10 ∨ j = 11 := by omega
        rcases h3 with rfl | rfl | rfl <;> (obtain ⟨g, h4, h5, _⟩ := hy; rw [e] at h4; have h6 := h5.lt; injection h4 with h4; injection h4 with h4; injection h4 with h4; omega)
      exact ⟨fun h => (fun e => hj h.2.2.1 h.2.2.2 e.symm), fun h => hj h.1 h.2.1⟩
    | 11, _ =>
      refine wpOp_one rfl ?_
      clear hd
      have hz := hb.size
      go_wp2
      refine ⟨_, by simp [upd]; done, below_new (Below.refl _ _) _, ⟨w'.heap.size, rfl, by rw [Ve.arr_zero]; exact Blk.new _ _ _, by omega⟩, fun j y hne hy => ?_⟩
      have hj : 9 ≤ j → j ≤ 11 → y ≠ .pointer (some ⟨w'.heap.size, 0, none⟩) := fun h1 h2 e => by
        have h3 : j = 9 ∨ j = 10 ∨ j = 11 := by omega
        rcases h3 with rfl | rfl | rfl <;> (obtain ⟨g, h4, h5, _⟩ := hy; rw [e] at h4; have h6 := h5.lt; injection h4 with h4; injection h4 with h4; injection h4 with h4; omega)
      exact ⟨fun h => (fun e => hj h.2.2.1 h.2.2.2 e.symm), fun h => hj h.1 h.2.1⟩
  case done =>
    intro v w' hb hf hr
    have h2 : v 2 = _ := hf 2 (by omega)
    have h5 : v 5 = _ := hf 5 (by omega)
    have h8 : v 8 = _ := hf 8 (by omega)
    obtain ⟨g6, h9, q6, l6⟩ := hf 9 (by omega)
    obtain ⟨g7, h10, q7, l7⟩ := hf 10 (by omega)
    obtain ⟨g8, h11, q8, l8⟩ := hf 11 (by omega)
    have n67 : g6 ≠ g7 := fun e => hr 9 10 (by omega) (by omega) (by omega) ⟨by omega, by omega, by omega, by omega⟩ (by rw [h9, h10, e])
    have n68 : g6 ≠ g8 := fun e => hr 9 11 (by omega) (by omega) (by omega) ⟨by omega, by omega, by omega, by omega⟩ (by rw [h9, h11, e])
    have n78 : g7 ≠ g8 := fun e => hr 10 11 (by omega) (by omega) (by omega) ⟨by omega, by omega, by omega, by omega⟩ (by rw [h10, h11, e])
    clear hf hr
    simp only [List.drop_succ_cons, List.drop_zero]
    rw [h2, h5, h8, h9, h10, h11]
    have u7 := q7.rowFar n67.symm (Ve.arr (Ve.cnt n.s))
    have u8 := (q8.rowFar n68.symm (Ve.arr (Ve.cnt n.s))).rowFar n78.symm (Ve.arr (Ve.cnt n.e))
    have G6 := ((q6.row (Ve.arr (Ve.cnt n.s))).rowFar n67 (Ve.arr (Ve.cnt n.e))).rowFar n68 (Ve.arr (Ve.cnt m.s))
    have G7 := (u7.row (Ve.arr (Ve.cnt n.e))).rowFar n78 (Ve.arr (Ve.cnt m.s))
    have G8 := u8.row (Ve.arr (Ve.cnt m.s))
    have b5 := below_setRow (below_setRow (below_setRow hb l6 (Ve.arr (Ve.cnt n.s))) l7 (Ve.arr (Ve.cnt n.e))) l8 (Ve.arr (Ve.cnt m.s))
    clear C0 C1 C2 h2 h5 h8 h9 h10 h11
    go_wp2_with (first | (refine wpList_store_row rfl 75 _ _ rfl g6 (Ve.arr (Ve.cnt n.s)) rfl rfl 75 (Ve.arr fun _ => 0) q6 (by rw [Ve.arr_size]; exact info64) (by rw [Ve.arr_size, Ve.arr_size]) (one_arr _) ?_) | (refine wpList_store_row rfl 75 _ _ rfl g7 (Ve.arr (Ve.cnt n.e)) rfl rfl 75 (Ve.arr fun _ => 0) u7 (by rw [Ve.arr_size]; exact info64) (by rw [Ve.arr_size, Ve.arr_size]) (one_arr _) ?_) | (refine wpList_store_row rfl 75 _ _ rfl g8 (Ve.arr (Ve.cnt m.s)) rfl rfl 75 (Ve.arr fun _ => 0) u8 (by rw [Ve.arr_size]; exact info64) (by rw [Ve.arr_size, Ve.arr_size]) (one_arr _) ?_))
    obtain ⟨w5, hw5⟩ : ∃ w5, ((w'.setRow g6 (Ve.arr (Ve.cnt n.s))).setRow g7 (Ve.arr (Ve.cnt n.e))).setRow g8 (Ve.arr (Ve.cnt m.s)) = w5 := ⟨_, rfl⟩
    rw [hw5] at G6 G7 G8 b5 ⊢
    have HG6 := Lib.hid G6
    have HG7 := Lib.hid G7
    have HG8 := Lib.hid G8
    clear hw5 q6 q7 q8 u7 u8 G6 G7 G8 hb
    go_loopw [9] (fun s9 wr => ∃ k : Nat, k ≤ 64 ∧ s9 = .int .i64 (k : Int) ∧ Blk wr g6 75 (Ve.arr (Nt.thriftyTo n m k)) ∧ Blk wr g7 75 (Ve.arr (Ve.cnt n.e)) ∧ Blk wr g8 75 (Ve.arr (Ve.cnt m.s)) ∧ Below W4.heap.size W4 wr) (fun s9 _ => 64 - (intOf s9).toNat)
    case atStart =>
      exact ⟨0, Nat.zero_le _, rfl, HG6.out.same fun i _ => Nt.thrifty_start n m i, HG7.out, HG8.out, b5⟩
    case round =>
      obtain ⟨k, hk, rfl, hC, hE, hD, hbw⟩ := hrel
      by_cases hlt : k < 64
      · have x0 := hE.arr_cell k hlt
        have y0 := hD.arr_cell k hlt
        have x1 := hC.free k
        have z0 := hC.arr_cell k hlt
        rw [Nt.thrifty_here n m k] at z0
        have hj0 : (0 : Int) ≤ (k : Int) := by omega
        have hj1 : (k : Int) < 64 := by omega
        by_cases hgt : Ve.cnt n.e k < Ve.cnt m.s k
        · have B6 := (hC.arr_put k hlt (Ve.cnt m.s k)).same (f' := Nt.thriftyTo n m (k + 1)) (fun i _ => Nt.thrifty_yes n m k hgt i)
          have B7 := hE.far (p := ⟨g6, k, none⟩) (by show g7 ≠ g6; exact n67.symm) (.int .i64 (Ve.cnt m.s k))
          have B8 := hD.far (p := ⟨g6, k, none⟩) (by show g8 ≠ g6; exact n68.symm) (.int .i64 (Ve.cnt m.s k))
          have HB := Lib.hid (And.intro B6 (And.intro B7 B8))
          have hbz := hbw.setCell (p := ⟨g6, k, none⟩) (by show W4.heap.size ≤ g6; exact l6) (.int .i64 (Ve.cnt m.s k))
          clear hC hE hD B6 B7 B8
          go_wp2_with fail
          go_region
          go_wp2_with fail
          go_roundw
          case rel => exact ⟨k + 1, by omega, by go_num, HB.out.1.drew, HB.out.2.1.drew, HB.out.2.2.drew, hbz.drew⟩
          case measure => simp [intOf]; omega
        · have hle : ¬ Ve.cnt n.e k < Ve.cnt m.s k := hgt
          have B6 := hC.same (f' := Nt.thriftyTo n m (k + 1)) (fun i _ => Nt.thrifty_no n m k hgt i)
          have HB := Lib.hid (And.intro B6 (And.intro hE hD))
          clear hC hE hD B6
          go_wp2_with fail
          go_region
          go_wp2_with fail
          go_roundw
          case rel => exact ⟨k + 1, by omega, by go_num, HB.out.1.drew, HB.out.2.1.drew, HB.out.2.2.drew, hbw.drew⟩
          case measure => simp [intOf]; omega
      · have hkl : k = 64 := by omega
        subst hkl
        have HC := Lib.hid (hC.same (f' := Nt.thrifty n m) (fun i hi => Nt.thrifty_end n m i hi))
        have HE := Lib.hid hE
        clear hC hE hD
        have e1 := cell_later (below_on bb2 hbw) c1
        have e2 := cell_later (below_on bb2 hbw) c2
        have f1 := cell_later (below_on bb2 hbw) d1
        have f2 := cell_later (below_on bb2 hbw) d2
        have hn6 := HN.out.later (below_on bb2 hbw)
        have hm6 := HM.out.later (below_on bb2 hbw)
        have T1 := Lib.hid (fun wx (hb : Below wr.heap.size wr wx) => (rtwo_any E E' ce ce' n.e m.e wx (hn6.he.later hb) (hm6.he.later hb)).mono fun _ _ hg => hg.one)
        have T2 := Lib.hid (fun wx (hb : Below wr.heap.size wr wx) => (stwo_any B B' cb cb' n.b m.b wx (hn6.hb.later hb) (hm6.hb.later hb)).mono fun _ _ hg => hg.one)
        clear hn6 hm6
        go_wp2_with fail
        refine wp_region_facts 14 (by kernel_rfl) (by kernel_rfl)
          (fun vv => { tmps := #[.agg (noteCells S E B V cs ce cb cv n), .agg (noteCells S' E' B' V' cs' ce' cb' cv' m), .pointer (some ⟨w.heap.size, 0, none⟩), .pointer (some ⟨w.heap.size + 1, 0, none⟩), .pointer (some ⟨w.heap.size + 2, 0, none⟩), .int .i64 0, .pointer (some ⟨g6, 0, none⟩), .pointer (some ⟨g7, 0, none⟩), .pointer (some ⟨g8, 0, none⟩), .int .i64 ((64 : Nat) : Int), vv 13, undef, undef, undef, undef, undef, undef, .agg #[.slice S n.s.length cs, .slice E n.e.length ce, .slice B n.b.length cb, .slice V n.ws.length cv], .bool true, .bool false, .bool false, .agg #[.slice S' m.s.length cs', .slice E' m.e.length ce', .slice B' m.b.length cb', .slice V' m.ws.length cv'], .bool true, .bool false, .bool false, undef, v 0, v 1, .agg (Ve.arr (Ve.cnt n.s)), v 3, v 4, .agg (Ve.arr (Ve.cnt n.e)), v 6, v 7, .agg (Ve.arr (Ve.cnt m.s)), .int .i64 ((64 : Nat) : Int), .bool false, u37, u38, u39, u40, u41, u42, u43, u44, u45, u46, u47, u48, u49, u50, vv 0, vv 1, vv 2, vv 3, vv 4, vv 5, vv 6, vv 7, vv 8, vv 9, vv 10, vv 11, vv 12, undef, undef, undef, undef, undef, undef, undef, undef, undef, undef, undef, undef, undef, undef, undef, undef, undef, undef, undef, undef, undef, undef, undef, undef, undef, undef, undef, undef, undef, undef, undef, undef, undef, undef, undef, undef, undef, undef, undef, undef, undef, undef, undef, undef, undef, undef, undef, undef, undef, undef, undef, undef], defers := [] }) (fun _ => undef)
          (fun i x wx => match i with
            | 0 => x = .agg (Ve.arr (Nt.thrifty n m))
            | 1 => ∃ A c, x = .slice A (Ve.ofL (Nt.thrifty n m)).length c ∧ OneL wx A c (Ve.ofL (Nt.thrifty n m))
            | 2 => x = .pointer (some ⟨w.heap.size, 1, none⟩)
            | 3 => x = .slice E n.e.length ce
            | 4 => x = .pointer (some ⟨(w.heap.size + 1), 1, none⟩)
            | 5 => x = .slice E' m.e.length ce'
            | 6 => ∃ A c, x = .slice A (Ve.joinL [n.e, m.e]).length c ∧ OneL wx A c (Ve.joinL [n.e, m.e])
            | 7 => x = .pointer (some ⟨w.heap.size, 2, none⟩)
            | 8 => x = .slice B n.b.length cb
            | 9 => x = .pointer (some ⟨(w.heap.size + 1), 2, none⟩)
            | 10 => x = .slice B' m.b.length cb'
            | 11 => ∃ A c, x = .slice A (Sp.joinS [n.b, m.b]).length c ∧ OneL wx A c (Sp.joinS [n.b, m.b])
            | 12 => ∃ A1 c1 A2 c2 A3 c3, x = .agg #[.slice A1 (Ve.ofL (Nt.thrifty n m)).length c1, .slice A2 (Ve.joinL [n.e, m.e]).length c2, .slice A3 (Sp.joinS [n.b, m.b]).length c3, .slice none 0 0] ∧ OneL wx A1 c1 (Ve.ofL (Nt.thrifty n m)) ∧ OneL wx A2 c2 (Ve.joinL [n.e, m.e]) ∧ OneL wx A3 c3 (Sp.joinS [n.b, m.b])
            | 13 => ∃ g, x = .pointer (some ⟨g, 0, none⟩) ∧ Blk wx g 26 #[.slice none 0 0, .slice none 0 0, .slice none 0 0, .slice none 0 0] ∧ wr.heap.size ≤ g
            | _ => True)
          (fun w1 w2 => Below w1.heap.size w1 w2) (fun h1 h2 => below_on h1 h2) (fun _ => Below.refl _ _) (Below.drew (Below.refl _ _)) ?stab ?step ?done
        case stab =>
          rintro i x w1 w2 h hb
          match i, h with
          | 0, h => exact h
          | 1, h => obtain ⟨A, c, h1, h2⟩ := h; exact ⟨A, c, h1, h2.later hb⟩
          | 2, h => exact h
          | 3, h => exact h
          | 4, h => exact h
          | 5, h => exact h
          | 6, h => obtain ⟨A, c, h1, h2⟩ := h; exact ⟨A, c, h1, h2.later hb⟩
          | 7, h => exact h
          | 8, h => exact h
          | 9, h => exact h
          | 10, h => exact h
          | 11, h => obtain ⟨A, c, h1, h2⟩ := h; exact ⟨A, c, h1, h2.later hb⟩
          | 12, h => obtain ⟨A1, c1, A2, c2, A3, c3, h1, h2, h3, h4⟩ := h; exact ⟨A1, c1, A2, c2, A3, c3, h1, h2.later hb, h3.later hb, h4.later hb⟩
          | 13, h => obtain ⟨g, h1, h2, h3⟩ := h; exact ⟨g, h1, h2.later hb, h3⟩
          | i + 14, _ => trivial
        case step =>
          intro i hi v w' hb hd
          match i, hi with
          | 0, _ =>
            refine wpOp_one rfl ?_
            clear hd
            have q := HC.out.later hb
            go_wp2_with (refine wpList_load_row rfl 75 _ rfl g6 rfl 75 _ (0, 0) _ q Try.underlying75 rfl (by rw [Ve.arr_size]; exact info64) ?_)
            go_wp2
            exact ⟨_, by simp [upd, Act.put]; done, Below.refl _ _, rfl⟩
          | 1, _ =>
            have h0 : v 0 = _ := hd 0 (List.elem_iff.1 (by kernel_rfl))
            refine wpOp_one rfl ?_
            clear hd
            rw [h0]
            go_wp2_with fail
            refine ((of_any (Nt.thrifty n m) _).mono fun _ _ hg => hg.one).mono ?_
            rintro e w'' hg
            obtain ⟨A, c, rfl, ho, b⟩ := hg
            go_wp2
            exact ⟨_, by simp [upd, h0]; done, b, A, c, rfl, ho⟩
          | 2, _ =>
            refine wpOp_one rfl ?_
            clear hd
            go_wp2
            exact ⟨_, by simp [upd]; done, Below.refl _ _, rfl⟩
          | 3, _ =>
            have h2 : v 2 = _ := hd 2 (List.elem_iff.1 (by kernel_rfl))
            refine wpOp_one rfl ?_
            clear hd
            rw [h2]
            have q0 := cell_later hb e1
            go_wp2
            exact ⟨_, by simp [upd, h2]; done, Below.refl _ _, rfl⟩
          | 4, _ =>
            refine wpOp_one rfl ?_
            clear hd
            go_wp2
            exact ⟨_, by simp [upd]; done, Below.refl _ _, rfl⟩
          | 5, _ =>
            have h4 : v 4 = _ := hd 4 (List.elem_iff.1 (by kernel_rfl))
            refine wpOp_one rfl ?_
            clear hd
            rw [h4]
            have q0 := cell_later hb f1
            go_wp2
            exact ⟨_, by simp [upd, h4]; done, Below.refl _ _, rfl⟩
          | 6, _ =>
            have h3 : v 3 = _ := hd 3 (List.elem_iff.1 (by kernel_rfl))
            have h5 : v 5 = _ := hd 5 (List.elem_iff.1 (by kernel_rfl))
            refine wpOp_one rfl ?_
            clear hd
            rw [h3, h5]
            go_wp2_with fail
            refine (T1.out _ hb).mono ?_
            rintro e w'' hg
            obtain ⟨A, c, rfl, ho, b⟩ := hg
            go_wp2
            exact ⟨_, by simp [upd, h3, h5]; done, b, A, c, rfl, ho⟩
          | 7, _ =>
            refine wpOp_one rfl ?_
            clear hd
            go_wp2
            exact ⟨_, by simp [upd]; done, Below.refl _ _, rfl⟩
          | 8, _ =>
            have h7 : v 7 = _ := hd 7 (List.elem_iff.1 (by kernel_rfl))
            refine wpOp_one rfl ?_
            clear hd
            rw [h7]
            have q0 := cell_later hb e2
            go_wp2
            exact ⟨_, by simp [upd, h7]; done, Below.refl _ _, rfl⟩
          | 9, _ =>
            refine wpOp_one rfl ?_
            clear hd
            go_wp2
            exact ⟨_, by simp [upd]; done, Below.refl _ _, rfl⟩
          | 10, _ =>
            have h9 : v 9 = _ := hd 9 (List.elem_iff.1 (by kernel_rfl))
            refine wpOp_one rfl ?_
            clear hd
            rw [h9]
            have q0 := cell_later hb f2
            go_wp2
            exact ⟨_, by simp [upd, h9]; done, Below.refl _ _, rfl⟩
          | 11, _ =>
            have h8 : v 8 = _ := hd 8 (List.elem_iff.1 (by kernel_rfl))
            have h10 : v 10 = _ := hd 10 (List.elem_iff.1 (by kernel_rfl))
            refine wpOp_one rfl ?_
            clear hd
            rw [h8, h10]
            go_wp2_with fail
            refine (T2.out _ hb).mono ?_
            rintro e w'' hg
            obtain ⟨A, c, rfl, ho, b⟩ := hg
            go_wp2
            exact ⟨_, by simp [upd, h8, h10]; done, b, A, c, rfl, ho⟩
          | 12, _ =>
            obtain ⟨A1, k1, h1, o1⟩ := hd 1 (List.elem_iff.1 (by kernel_rfl))
            obtain ⟨A6, k6, h6, o6⟩ := hd 6 (List.elem_iff.1 (by kernel_rfl))
            obtain ⟨A11, k11, h11, o11⟩ := hd 11 (List.elem_iff.1 (by kernel_rfl))
            refine wpOp_one rfl ?_
            clear hd
            rw [h1, h6, h11]
            go_wp2
            exact ⟨_, by simp [upd, h1, h6, h11]; done, Below.refl _ _, A1, k1, A6, k6, A11, k11, rfl, o1, o6, o11⟩
          | 13, _ =>
            refine wpOp_one rfl ?_
            clear hd
            have hz := hb.size
            go_wp2
            exact ⟨_, by simp [upd]; done, below_new (Below.refl _ _) _, w'.heap.size, rfl, Blk.new _ _ _, by omega⟩
        case done =>
          intro vv w' hb hf
          obtain ⟨A1, k1, A2, k2, A3, k3, h12, o1, o2, o3⟩ := hf 12 (by omega)
          obtain ⟨gx, h13, qx, lx⟩ := hf 13 (by omega)
          have O := Lib.hid (And.intro o1 (And.intro o2 o3))
          clear o1 o2 o3 hf
          simp only [List.drop_succ_cons, List.drop_zero]
          rw [h12, h13]
          obtain ⟨⟨z0, z1, z2, z3⟩, r0, r1, r2, r3⟩ := nt_cells qx
          obtain ⟨L1, hL1⟩ : ∃ l, Ve.ofL (Nt.thrifty n m) = l := ⟨_, rfl⟩
          obtain ⟨L2, hL2⟩ : ∃ l, Ve.joinL [n.e, m.e] = l := ⟨_, rfl⟩
          obtain ⟨L3, hL3⟩ : ∃ l, Sp.joinS [n.b, m.b] = l := ⟨_, rfl⟩
          rw [hL1, hL2, hL3] at O HT2 ⊢
          have HL3 := Lib.hid hL3
          clear hL1 hL2 hL3 T1 T2 h12 h13
          go_wp2_with fail
          have P1 : Blk (w'.setCell ⟨gx, 0, none⟩ (.slice A1 L1.length k1)) gx 26 #[.slice A1 L1.length k1, .slice none 0 0, .slice none 0 0, .slice none 0 0] := qx.put 0 _
          have P2 : Blk ((w'.setCell ⟨gx, 0, none⟩ (.slice A1 L1.length k1)).setCell ⟨gx, 1, none⟩ (.slice A2 L2.length k2)) gx 26 #[.slice A1 L1.length k1, .slice A2 L2.length k2, .slice none 0 0, .slice none 0 0] := P1.put 1 _
          have P3 : Blk (((w'.setCell ⟨gx, 0, none⟩ (.slice A1 L1.length k1)).setCell ⟨gx, 1, none⟩ (.slice A2 L2.length k2)).setCell ⟨gx, 2, none⟩ (.slice A3 L3.length k3)) gx 26 #[.slice A1 L1.length k1, .slice A2 L2.length k2, .slice A3 L3.length k3, .slice none 0 0] := P2.put 2 _
          have P4 : Blk ((((w'.setCell ⟨gx, 0, none⟩ (.slice A1 L1.length k1)).setCell ⟨gx, 1, none⟩ (.slice A2 L2.length k2)).setCell ⟨gx, 2, none⟩ (.slice A3 L3.length k3)).setCell ⟨gx, 3, none⟩ (.slice none 0 0)) gx 26 #[.slice A1 L1.length k1, .slice A2 L2.length k2, .slice A3 L3.length k3, .slice none 0 0] := P3.put 3 _
          have b6 : Below wr.heap.size wr ((((w'.setCell ⟨gx, 0, none⟩ (.slice A1 L1.length k1)).setCell ⟨gx, 1, none⟩ (.slice A2 L2.length k2)).setCell ⟨gx, 2, none⟩ (.slice A3 L3.length k3)).setCell ⟨gx, 3, none⟩ (.slice none 0 0)) := below_puts hb lx _ _ _ _
          have N6 := (NoteAt.mk (n := ⟨L1, L2, L3, []⟩) O.out.1 O.out.2.1 O.out.2.2 OneW.nil : NoteAt w' A1 A2 A3 none k1 k2 k3 0 ⟨L1, L2, L3, []⟩).puts qx ⟨rfl, rfl, rfl, rfl⟩ (.slice A1 L1.length k1) (.slice A2 L2.length k2) (.slice A3 L3.length k3) (.slice none 0 0) ⟨rfl, rfl, rfl⟩
          obtain ⟨w6, hw6⟩ : ∃ w6, (((w'.setCell ⟨gx, 0, none⟩ (.slice A1 L1.length k1)).setCell ⟨gx, 1, none⟩ (.slice A2 L2.length k2)).setCell ⟨gx, 2, none⟩ (.slice A3 L3.length k3)).setCell ⟨gx, 3, none⟩ (.slice none 0 0) = w6 := ⟨_, rfl⟩
          rw [hw6] at P4 b6 N6 ⊢
          clear hw6 P1 P2 P3 qx z0 z1 z2 z3 r0 r1 r2 r3 O hb
          obtain ⟨inX, hinX⟩ : ∃ f, Sp.inL L3 = f := ⟨_, rfl⟩
          have S3 := set_any A3 k3 L3 w6 N6.hb.len N6.hb.stamps
          rw [hinX] at S3
          have HIX := Lib.hid hinX
          clear hinX
          refine S3.mono ?_
          rintro e w7 ⟨rfl, b7⟩
          have hT0 := Blk.new w7 69 (Sp.arr fun _ => false)
          rw [← marks_zero] at hT0
          have hT1 := hT0.row (Sp.arr inX)
          have bt := below_setRow (below_new (Below.refl w7.heap.size w7) (.cells Try.zeroCells69 69)) (Nat.le_refl _) (Sp.arr inX)
          have b67 := below_on b7 bt
          have HX := Lib.hid (P4.later b67)
          have HNX := Lib.hid (N6.later b67)
          have HSB := Lib.hid hT1
          have hgx := P4.lt
          have hz7 := b7.size
          have bbw := below_on (below_on bb2 hbw) (below_on b6 b67)
          clear hT1 P4 N6 S3
          go_wp2_with (refine wpList_store_row rfl 69 _ _ rfl w7.heap.size (Sp.arr inX) rfl rfl 69 Try.zeroCells69 hT0 (by rw [Sp.arr_size]; exact info256) (by rw [marks_zero, Sp.arr_size, Sp.arr_size]) (one_marks _) ?_)
          obtain ⟨w8, hw8⟩ : ∃ w8, (w7.alloc (.cells Try.zeroCells69 69)).setRow w7.heap.size (Sp.arr inX) = w8 := ⟨_, rfl⟩
          rw [hw8] at HX HNX HSB bbw ⊢
          have hWx : W.heap.size ≤ gx := by have := (below_on bb2 hbw).size; omega
          have hW2 : w.heap.size + 2 < W.heap.size := HB2.out.lt
          have HB08 := Lib.hid ((show Blk W w.heap.size 26 (noteCells S E B V cs ce cb cv n) from HB0.out).later bbw)
          have HB18 := Lib.hid ((show Blk W (w.heap.size + 1) 26 (noteCells S' E' B' V' cs' ce' cb' cv' m) from HB1.out).later bbw)
          have HB28 := Lib.hid (HB2.out.later bbw)
          have HV8 := Lib.hid (HN.out.hv.later bbw)
          have HV8' := Lib.hid (HM.out.hv.later bbw)
          have hbw8 := below_on hb0 bbw
          have hSBl : w7.heap.size < w8.heap.size := HSB.out.lt
          have hsl : Hid (∀ x ∈ (#[.slice A1 L1.length k1, .slice A2 L2.length k2, .slice A3 L3.length k3, .slice none 0 0] : Array Value).toList, isInt x = false) := Lib.hid (by intro x hx; simp at hx; rcases hx with rfl | rfl | rfl | rfl <;> rfl)
          have hgx7 : gx < w7.heap.size := by omega
          clear hw8 hT0 bt b67 b7 b6 hgx e1 e2 f1 f2 c0 c1 c2 c3 d0 d1 d2 d3 p0 p1 p2 HN HM HB0 HB1 HB2 HC HE HG6 HG7 HG8 HW
          go_loopw [12] (fun s12 wr => ∃ (k : Nat) (v : Value), k ≤ 256 ∧ s12 = .int .i64 (k : Int) ∧ Blk wr gx 26 #[.slice A1 L1.length k1, .slice A2 L2.length k2, .slice A3 L3.length k3, v] ∧ wr.ownsRow w8.heap.size 35 4 v (Nt.mergedTo n m L3 k).length (Nt.wrCells (Nt.mergedTo n m L3 k)) ∧ But gx gx w8 wr ∧ Below w.heap.size w wr) (fun s12 _ => 256 - (intOf s12).toNat)
          case atStart =>
            exact ⟨0, .slice none 0 0, Nat.zero_le _, rfl, HX.out, ⟨rfl, .inl ⟨rfl, rfl⟩⟩, But.refl _ _ _, hbw8⟩
          case round =>
            obtain ⟨k, vk, hk, rfl, hG, hown, hbut, hbw9⟩ := hrel
            by_cases hlt : k < 256
            · have e3 := (hbut.blk HB08.out (by omega) (by omega)).cell (i := 3) rfl
              have f3 := (hbut.blk HB18.out (by omega) (by omega)).cell (i := 3) rfl
              have xM := (hbut.blk HSB.out (by omega) (by omega)).marks_cell k hlt
              have hv := HV8.out.but hbut HX.out hsl.out HX.out hsl.out
              have hv' := HV8'.out.but hbut HX.out hsl.out HX.out hsl.out
              obtain ⟨⟨y, yo⟩, hy⟩ : ∃ r, Nt.at_ n.ws (k : Int) = r := ⟨_, rfl⟩
              obtain ⟨⟨x, xo⟩, hx⟩ : ∃ r, Nt.at_ m.ws (k : Int) = r := ⟨_, rfl⟩
              have na := nat_any V cv n.ws (k : Int) wr hv
              rw [hy] at na
              have NA := Lib.hid (show Calls Try.prog 52 #[.slice V n.ws.length cv, .int .i64 (k : Int)] wr (Says (.tuple #[.agg #[.int .i64 y.1, .int .i64 y.2.1, .int .i64 y.2.2.1, .bool y.2.2.2], .bool yo]) wr) from na)
              have nb := fun wx (hb : Below wr.heap.size wr wx) => nat_any V' cv' m.ws (k : Int) wx (hv'.later hb)
              rw [hx] at nb
              have NB := Lib.hid (fun wx (hb : Below wr.heap.size wr wx) => (show Calls Try.prog 52 #[.slice V' m.ws.length cv', .int .i64 (k : Int)] wx (Says (.tuple #[.agg #[.int .i64 x.1, .int .i64 x.2.1, .int .i64 x.2.2.1, .bool x.2.2.2], .bool xo]) wx) from nb wx hb))
              have HG := Lib.hid hG
              have HOW := Lib.hid hown
              have HBT := Lib.hid hbut
              have hb8 := hbut.1
              have hj0 : (0 : Int) ≤ (k : Int) := by omega
              have hj1 : (k : Int) < 256 := by omega
              clear na nb hv hv' hG hown hbut
              go_wp2_with fail
              refine NA.out.mono ?_
              rintro e w1 ⟨rfl, b1⟩
              have bA := below_new b1 (.cells #[.int .i64 y.1, .int .i64 y.2.1, .int .i64 y.2.2.1, .bool y.2.2.2] 35)
              have hz1 := b1.size
              have g3 := cell_later bA f3
              clear e3
              go_wp2_with fail
              refine (NB.out _ bA).mono ?_
              rintro e w2 ⟨rfl, b2⟩
              have bB := below_new (below_on bA b2) (.cells #[.int .i64 x.1, .int .i64 x.2.1, .int .i64 x.2.2.1, .bool x.2.2.2] 35)
              have hz2 : w1.heap.size + 1 ≤ w2.heap.size := by have := b2.size; simpa using this
              have h13 : Blk (w2.alloc (.cells #[.int .i64 x.1, .int .i64 x.2.1, .int .i64 x.2.2.1, .bool x.2.2.2] 35)) w1.heap.size 35 (Nt.wrArr y) := ((Blk.new w1 35 (Nt.wrArr y)).later b2).alloc _
              have h15 : Blk (w2.alloc (.cells #[.int .i64 x.1, .int .i64 x.2.1, .int .i64 x.2.2.1, .bool x.2.2.2] 35)) w2.heap.size 35 (Nt.wrArr x) := Blk.new w2 35 (Nt.wrArr x)
              clear NA NB f3 g3
              cases xo with
              | false =>
                cases yo with
                | false =>
                  have bz := bB
                  have hP : Blk (w2.alloc (.cells #[.int .i64 x.1, .int .i64 x.2.1, .int .i64 x.2.2.1, .bool x.2.2.2] 35)) w1.heap.size 35 (Nt.wrArr y) := h13
                  have hpk : Nt.pick n m k = (y, false) := by
                    unfold Nt.pick
                    rw [hy, hx]
                    rfl
                  have xB := cell_later bz xM
                  clear hP
                  have HK := Lib.hid (Nt.merged_none (bl := L3) hpk)
                  have HGZ := Lib.hid (HG.out.later bz)
                  have HOZ := Lib.hid (own_later HOW.out bz)
                  have hbz := HBT.out.below bz
                  have hwz := below_on hbw9 bz
                  clear HG HOW HBT
                  go_wp2_with fail
                  go_roundw
                  case rel => exact ⟨k + 1, vk, by omega, by go_num, HGZ.out, by rw [HK.out]; exact HOZ.out, hbz, hwz⟩
                  case measure => simp [intOf]; omega
                | true =>
                  have bz := bB
                  have hP : Blk (w2.alloc (.cells #[.int .i64 x.1, .int .i64 x.2.1, .int .i64 x.2.2.1, .bool x.2.2.2] 35)) w1.heap.size 35 (Nt.wrArr y) := h13
                  have hpk : Nt.pick n m k = (y, true) := by
                    unfold Nt.pick
                    rw [hy, hx]
                    rfl
                  have xB := cell_later bz xM
                  obtain ⟨⟨p0, p1, p2, p3⟩, s0, s1, s2, s3⟩ := wr_cells hP
                  clear hP
                  cases hin : inX k
                  · rw [hin] at xB
                    have hi : Sp.inL L3 k = false := by rw [HIX.out]; exact hin
                    clear hin
                    have HK := Lib.hid (Nt.merged_yes hpk hi)
                    have hsz : ((w2.alloc (.cells #[.int .i64 x.1, .int .i64 x.2.1, .int .i64 x.2.2.1, .bool x.2.2.2] 35))).heap.size = (w2.heap.size + 1) := by simp
                    have bz2 := below_new bz (.cells #[.int .i64 y.1, .int .i64 y.2.1, .int .i64 y.2.2.1, .bool y.2.2.2] 35)
                    have hown' := own_later HOW.out bz2
                    have hy1 : Lies (((w2.alloc (.cells #[.int .i64 x.1, .int .i64 x.2.1, .int .i64 x.2.2.1, .bool x.2.2.2] 35))).alloc (.cells #[.int .i64 y.1, .int .i64 y.2.1, .int .i64 y.2.2.1, .bool y.2.2.2] 35)) (some ⟨(w2.heap.size + 1), 0, none⟩) (Nt.wrCells [y]) := fun _ => ⟨(w2.heap.size + 1), 0, rfl, fun j u hu => by
                      rw [Nat.zero_add, ← hsz]
                      exact (Blk.new ((w2.alloc (.cells #[.int .i64 x.1, .int .i64 x.2.1, .int .i64 x.2.2.1, .bool x.2.2.2] 35))) 35 #[.int .i64 y.1, .int .i64 y.2.1, .int .i64 y.2.2.1, .bool y.2.2.2]).cell (by simpa [Nt.wrCells, Nt.wrCell] using hu)⟩
                    have z3 := cell_later bz (HG.out.cell (i := 3) rfl)
                    have hGw := HG.out.later bz2
                    have hbutw := HBT.out.below bz2
                    have hwz := below_on hbw9 bz2
                    have hszw := hbutw.1
                    have hkl := Nt.mergedTo_len n m L3 k
                    obtain ⟨K, hKK⟩ : ∃ K, Nt.mergedTo n m L3 k = K := ⟨_, rfl⟩
                    rw [hKK] at hown' hkl HK
                    clear HG HOW HBT hKK
                    go_wp2_with (at_builtin; refine Go.Proofs.Ytoaclofobfaflaa.wpList_append_lies _ rfl _ _ 24 rfl w8.heap.size 35 i0 (.agg #[.int .i64 0, .int .i64 0, .int .i64 0, .bool false]) 4 32 Try.underlying24 hI hZ0 hZ1 hZ2 rfl (by decide) _ K.length (Nt.wrCells K) rfl hown' (some ⟨(w2.heap.size + 1), 0, none⟩) 1 1 (fun h => by cases h) (Nt.wrCells [y]) rfl rfl hy1 (Nt.wrCells_one _) ?h63 ?hbytes hszw ?_)
                    case h63 => show K.length + 1 ≤ (9223372036854775807 : Nat); omega
                    case hbytes => omega
                    intro v' wz hownz hgz _
                    have hsg := hgz.size
                    have GZ : Blk wz gx 26 #[.slice A1 L1.length k1, .slice A2 L2.length k2, .slice A3 L3.length k3, vk] := (hgz.block gx hGw.lt (fun e => by have := own_ge hown' _ e.symm; omega)).trans hGw
                    have butz := hbutw.grown hgz hsg (fun r e => own_ge hown' r e)
                    have bwz : Below w.heap.size w wz := hwz.grown hgz (by omega) (fun r e => by have := own_ge hown' r e; omega)
                    rw [← Nt.wrCells_append, show K.length + 1 = (K ++ [y]).length from by simp, ← HK.out] at hownz
                    have zz := GZ.cell (i := 3) rfl
                    have rz := GZ.free 3
                    have G7 : ∀ u, Blk (wz.setCell ⟨gx, 3, none⟩ u) gx 26 #[.slice A1 L1.length k1, .slice A2 L2.length k2, .slice A3 L3.length k3, u] := fun u => GZ.put 3 u
                    have O7 : ∀ u, (wz.setCell ⟨gx, 3, none⟩ u).ownsRow w8.heap.size 35 4 v' (Nt.mergedTo n m L3 (k + 1)).length (Nt.wrCells (Nt.mergedTo n m L3 (k + 1))) := fun u => own_stays hownz (fun r hr => Below.heap_setCell wz ⟨gx, 3, none⟩ u r (by have := own_ge hownz r hr; show r ≠ gx; omega))
                    have HQ := Lib.hid (And.intro G7 O7)
                    obtain ⟨gv, capv, rfl⟩ := own_len hownz (by rw [HK.out]; simp)
                    have b7z := fun u => butz.setA 3 u
                    have c7z := fun u => bwz.setCell (p := ⟨gx, 3, none⟩) (by show w.heap.size ≤ gx; omega) u
                    have HQ2 := Lib.hid (And.intro b7z c7z)
                    clear GZ hownz hgz hown' hy1 hGw G7 O7 b7z c7z hbutw
                    go_wp2_with fail
                    go_roundw
                    case rel => exact ⟨k + 1, _, by omega, by go_num, HQ.out.1 _, HQ.out.2 _, HQ2.out.1 _, HQ2.out.2 _⟩
                    case measure => simp [intOf]; omega
                  · rw [hin] at xB
                    have hi : Sp.inL L3 k = true := by rw [HIX.out]; exact hin
                    clear hin
                    have HK := Lib.hid (Nt.merged_blur (a := n) (b := m) hi)
                    have HGZ := Lib.hid (HG.out.later bz)
                    have HOZ := Lib.hid (own_later HOW.out bz)
                    have hbz := HBT.out.below bz
                    have hwz := below_on hbw9 bz
                    clear HG HOW HBT
                    go_wp2_with fail
                    go_roundw
                    case rel => exact ⟨k + 1, vk, by omega, by go_num, HGZ.out, by rw [HK.out]; exact HOZ.out, hbz, hwz⟩
                    case measure => simp [intOf]; omega
              | true =>
                cases yo with
                | false =>
                  obtain ⟨⟨m0, m1, m2, m3⟩, t0, t1, t2, t3⟩ := wr_cells h13
                  obtain ⟨⟨l0, l1, l2, l3⟩, v0, v1, v2, v3⟩ := wr_cells h15
                  have bz : Below wr.heap.size wr ((((((w2.alloc (.cells #[.int .i64 x.1, .int .i64 x.2.1, .int .i64 x.2.2.1, .bool x.2.2.2] 35))).setCell ⟨w1.heap.size, 0, none⟩ (.int .i64 x.1)).setCell ⟨w1.heap.size, 1, none⟩ (.int .i64 x.2.1)).setCell ⟨w1.heap.size, 2, none⟩ (.int .i64 x.2.2.1)).setCell ⟨w1.heap.size, 3, none⟩ (.bool x.2.2.2)) := below_puts bB (by omega) _ _ _ _
                  have hP : Blk ((((((w2.alloc (.cells #[.int .i64 x.1, .int .i64 x.2.1, .int .i64 x.2.2.1, .bool x.2.2.2] 35))).setCell ⟨w1.heap.size, 0, none⟩ (.int .i64 x.1)).setCell ⟨w1.heap.size, 1, none⟩ (.int .i64 x.2.1)).setCell ⟨w1.heap.size, 2, none⟩ (.int .i64 x.2.2.1)).setCell ⟨w1.heap.size, 3, none⟩ (.bool x.2.2.2)) w1.heap.size 35 (Nt.wrArr x) := wr_puts h13 x
                  have hpk : Nt.pick n m k = (x, true) := by
                    unfold Nt.pick
                    rw [hy, hx]
                    rfl
                  have xB := cell_later bz xM
                  obtain ⟨⟨p0, p1, p2, p3⟩, s0, s1, s2, s3⟩ := wr_cells hP
                  clear hP
                  cases hin : inX k
                  · rw [hin] at xB
                    have hi : Sp.inL L3 k = false := by rw [HIX.out]; exact hin
                    clear hin
                    have HK := Lib.hid (Nt.merged_yes hpk hi)
                    have hsz : (((((((w2.alloc (.cells #[.int .i64 x.1, .int .i64 x.2.1, .int .i64 x.2.2.1, .bool x.2.2.2] 35))).setCell ⟨w1.heap.size, 0, none⟩ (.int .i64 x.1)).setCell ⟨w1.heap.size, 1, none⟩ (.int .i64 x.2.1)).setCell ⟨w1.heap.size, 2, none⟩ (.int .i64 x.2.2.1)).setCell ⟨w1.heap.size, 3, none⟩ (.bool x.2.2.2))).heap.size = (w2.heap.size + 1) := by simp
                    have bz2 := below_new bz (.cells #[.int .i64 x.1, .int .i64 x.2.1, .int .i64 x.2.2.1, .bool x.2.2.2] 35)
                    have hown' := own_later HOW.out bz2
                    have hy1 : Lies ((((((((w2.alloc (.cells #[.int .i64 x.1, .int .i64 x.2.1, .int .i64 x.2.2.1, .bool x.2.2.2] 35))).setCell ⟨w1.heap.size, 0, none⟩ (.int .i64 x.1)).setCell ⟨w1.heap.size, 1, none⟩ (.int .i64 x.2.1)).setCell ⟨w1.heap.size, 2, none⟩ (.int .i64 x.2.2.1)).setCell ⟨w1.heap.size, 3, none⟩ (.bool x.2.2.2))).alloc (.cells #[.int .i64 x.1, .int .i64 x.2.1, .int .i64 x.2.2.1, .bool x.2.2.2] 35)) (some ⟨(w2.heap.size + 1), 0, none⟩) (Nt.wrCells [x]) := fun _ => ⟨(w2.heap.size + 1), 0, rfl, fun j u hu => by
                      rw [Nat.zero_add, ← hsz]
                      exact (Blk.new (((((((w2.alloc (.cells #[.int .i64 x.1, .int .i64 x.2.1, .int .i64 x.2.2.1, .bool x.2.2.2] 35))).setCell ⟨w1.heap.size, 0, none⟩ (.int .i64 x.1)).setCell ⟨w1.heap.size, 1, none⟩ (.int .i64 x.2.1)).setCell ⟨w1.heap.size, 2, none⟩ (.int .i64 x.2.2.1)).setCell ⟨w1.heap.size, 3, none⟩ (.bool x.2.2.2))) 35 #[.int .i64 x.1, .int .i64 x.2.1, .int .i64 x.2.2.1, .bool x.2.2.2]).cell (by simpa [Nt.wrCells, Nt.wrCell] using hu)⟩
                    have z3 := cell_later bz (HG.out.cell (i := 3) rfl)
                    have hGw := HG.out.later bz2
                    have hbutw := HBT.out.below bz2
                    have hwz := below_on hbw9 bz2
                    have hszw := hbutw.1
                    have hkl := Nt.mergedTo_len n m L3 k
                    obtain ⟨K, hKK⟩ : ∃ K, Nt.mergedTo n m L3 k = K := ⟨_, rfl⟩
                    rw [hKK] at hown' hkl HK
                    clear HG HOW HBT hKK
                    go_wp2_with (at_builtin; refine Go.Proofs.Ytoaclofobfaflaa.wpList_append_lies _ rfl _ _ 24 rfl w8.heap.size 35 i0 (.agg #[.int .i64 0, .int .i64 0, .int .i64 0, .bool false]) 4 32 Try.underlying24 hI hZ0 hZ1 hZ2 rfl (by decide) _ K.length (Nt.wrCells K) rfl hown' (some ⟨(w2.heap.size + 1), 0, none⟩) 1 1 (fun h => by cases h) (Nt.wrCells [x]) rfl rfl hy1 (Nt.wrCells_one _) ?h63 ?hbytes hszw ?_)
                    case h63 => show K.length + 1 ≤ (9223372036854775807 : Nat); omega
                    case hbytes => omega
                    intro v' wz hownz hgz _
                    have hsg := hgz.size
                    have GZ : Blk wz gx 26 #[.slice A1 L1.length k1, .slice A2 L2.length k2, .slice A3 L3.length k3, vk] := (hgz.block gx hGw.lt (fun e => by have := own_ge hown' _ e.symm; omega)).trans hGw
                    have butz := hbutw.grown hgz hsg (fun r e => own_ge hown' r e)
                    have bwz : Below w.heap.size w wz := hwz.grown hgz (by omega) (fun r e => by have := own_ge hown' r e; omega)
                    rw [← Nt.wrCells_append, show K.length + 1 = (K ++ [x]).length from by simp, ← HK.out] at hownz
                    have zz := GZ.cell (i := 3) rfl
                    have rz := GZ.free 3
                    have G7 : ∀ u, Blk (wz.setCell ⟨gx, 3, none⟩ u) gx 26 #[.slice A1 L1.length k1, .slice A2 L2.length k2, .slice A3 L3.length k3, u] := fun u => GZ.put 3 u
                    have O7 : ∀ u, (wz.setCell ⟨gx, 3, none⟩ u).ownsRow w8.heap.size 35 4 v' (Nt.mergedTo n m L3 (k + 1)).length (Nt.wrCells (Nt.mergedTo n m L3 (k + 1))) := fun u => own_stays hownz (fun r hr => Below.heap_setCell wz ⟨gx, 3, none⟩ u r (by have := own_ge hownz r hr; show r ≠ gx; omega))
                    have HQ := Lib.hid (And.intro G7 O7)
                    obtain ⟨gv, capv, rfl⟩ := own_len hownz (by rw [HK.out]; simp)
                    have b7z := fun u => butz.setA 3 u
                    have c7z := fun u => bwz.setCell (p := ⟨gx, 3, none⟩) (by show w.heap.size ≤ gx; omega) u
                    have HQ2 := Lib.hid (And.intro b7z c7z)
                    clear GZ hownz hgz hown' hy1 hGw G7 O7 b7z c7z hbutw
                    go_wp2_with fail
                    go_roundw
                    case rel => exact ⟨k + 1, _, by omega, by go_num, HQ.out.1 _, HQ.out.2 _, HQ2.out.1 _, HQ2.out.2 _⟩
                    case measure => simp [intOf]; omega
                  · rw [hin] at xB
                    have hi : Sp.inL L3 k = true := by rw [HIX.out]; exact hin
                    clear hin
                    have HK := Lib.hid (Nt.merged_blur (a := n) (b := m) hi)
                    have HGZ := Lib.hid (HG.out.later bz)
                    have HOZ := Lib.hid (own_later HOW.out bz)
                    have hbz := HBT.out.below bz
                    have hwz := below_on hbw9 bz
                    clear HG HOW HBT
                    go_wp2_with fail
                    go_roundw
                    case rel => exact ⟨k + 1, vk, by omega, by go_num, HGZ.out, by rw [HK.out]; exact HOZ.out, hbz, hwz⟩
                    case measure => simp [intOf]; omega
                | true =>
                  obtain ⟨c, hc⟩ : ∃ c, St.cmpS y.1 y.2.1 x.1 x.2.1 = c := ⟨_, rfl⟩
                  obtain ⟨⟨m0, m1, m2, m3⟩, t0, t1, t2, t3⟩ := wr_cells h13
                  obtain ⟨⟨l0, l1, l2, l3⟩, v0, v1, v2, v3⟩ := wr_cells h15
                  go_wp2_with fail
                  refine (rcompare_any y.1 y.2.1 x.1 x.2.1 _).mono ?_
                  rintro e w3 ⟨rfl, b3⟩
                  have bC := below_on bB b3
                  replace h13 := h13.later b3
                  replace h15 := h15.later b3
                  rw [hc]
                  clear m0 m1 m2 m3 t0 t1 t2 t3 l0 l1 l2 l3 v0 v1 v2 v3
                  obtain ⟨⟨m0, m1, m2, m3⟩, t0, t1, t2, t3⟩ := wr_cells h13
                  obtain ⟨⟨l0, l1, l2, l3⟩, v0, v1, v2, v3⟩ := wr_cells h15
                  by_cases hneg : c < 0
                  · have dn : decide (c < 0) = true := decide_eq_true hneg
                    have bz : Below wr.heap.size wr (((((w3).setCell ⟨w1.heap.size, 0, none⟩ (.int .i64 x.1)).setCell ⟨w1.heap.size, 1, none⟩ (.int .i64 x.2.1)).setCell ⟨w1.heap.size, 2, none⟩ (.int .i64 x.2.2.1)).setCell ⟨w1.heap.size, 3, none⟩ (.bool x.2.2.2)) := below_puts bC (by omega) _ _ _ _
                    have hP : Blk (((((w3).setCell ⟨w1.heap.size, 0, none⟩ (.int .i64 x.1)).setCell ⟨w1.heap.size, 1, none⟩ (.int .i64 x.2.1)).setCell ⟨w1.heap.size, 2, none⟩ (.int .i64 x.2.2.1)).setCell ⟨w1.heap.size, 3, none⟩ (.bool x.2.2.2)) w1.heap.size 35 (Nt.wrArr x) := wr_puts h13 x
                    have hpk : Nt.pick n m k = (x, true) := by
                      unfold Nt.pick
                      rw [hy, hx]
                      simp only [hc, hneg]; rfl
                    have xB := cell_later bz xM
                    obtain ⟨⟨p0, p1, p2, p3⟩, s0, s1, s2, s3⟩ := wr_cells hP
                    clear hP
                    cases hin : inX k
                    · rw [hin] at xB
                      have hi : Sp.inL L3 k = false := by rw [HIX.out]; exact hin
                      clear hin
                      have HK := Lib.hid (Nt.merged_yes hpk hi)
                      have hsz : ((((((w3).setCell ⟨w1.heap.size, 0, none⟩ (.int .i64 x.1)).setCell ⟨w1.heap.size, 1, none⟩ (.int .i64 x.2.1)).setCell ⟨w1.heap.size, 2, none⟩ (.int .i64 x.2.2.1)).setCell ⟨w1.heap.size, 3, none⟩ (.bool x.2.2.2))).heap.size = w3.heap.size := by simp
                      have bz2 := below_new bz (.cells #[.int .i64 x.1, .int .i64 x.2.1, .int .i64 x.2.2.1, .bool x.2.2.2] 35)
                      have hown' := own_later HOW.out bz2
                      have hy1 : Lies (((((((w3).setCell ⟨w1.heap.size, 0, none⟩ (.int .i64 x.1)).setCell ⟨w1.heap.size, 1, none⟩ (.int .i64 x.2.1)).setCell ⟨w1.heap.size, 2, none⟩ (.int .i64 x.2.2.1)).setCell ⟨w1.heap.size, 3, none⟩ (.bool x.2.2.2))).alloc (.cells #[.int .i64 x.1, .int .i64 x.2.1, .int .i64 x.2.2.1, .bool x.2.2.2] 35)) (some ⟨w3.heap.size, 0, none⟩) (Nt.wrCells [x]) := fun _ => ⟨w3.heap.size, 0, rfl, fun j u hu => by
                        rw [Nat.zero_add, ← hsz]
                        exact (Blk.new ((((((w3).setCell ⟨w1.heap.size, 0, none⟩ (.int .i64 x.1)).setCell ⟨w1.heap.size, 1, none⟩ (.int .i64 x.2.1)).setCell ⟨w1.heap.size, 2, none⟩ (.int .i64 x.2.2.1)).setCell ⟨w1.heap.size, 3, none⟩ (.bool x.2.2.2))) 35 #[.int .i64 x.1, .int .i64 x.2.1, .int .i64 x.2.2.1, .bool x.2.2.2]).cell (by simpa [Nt.wrCells, Nt.wrCell] using hu)⟩
                      have z3 := cell_later bz (HG.out.cell (i := 3) rfl)
                      have hGw := HG.out.later bz2
                      have hbutw := HBT.out.below bz2
                      have hwz := below_on hbw9 bz2
                      have hszw := hbutw.1
                      have hkl := Nt.mergedTo_len n m L3 k
                      obtain ⟨K, hKK⟩ : ∃ K, Nt.mergedTo n m L3 k = K := ⟨_, rfl⟩
                      rw [hKK] at hown' hkl HK
                      clear HG HOW HBT hKK
                      go_wp2_with (at_builtin; refine Go.Proofs.Ytoaclofobfaflaa.wpList_append_lies _ rfl _ _ 24 rfl w8.heap.size 35 i0 (.agg #[.int .i64 0, .int .i64 0, .int .i64 0, .bool false]) 4 32 Try.underlying24 hI hZ0 hZ1 hZ2 rfl (by decide) _ K.length (Nt.wrCells K) rfl hown' (some ⟨w3.heap.size, 0, none⟩) 1 1 (fun h => by cases h) (Nt.wrCells [x]) rfl rfl hy1 (Nt.wrCells_one _) ?h63 ?hbytes hszw ?_)
                      case h63 => show K.length + 1 ≤ (9223372036854775807 : Nat); omega
                      case hbytes => omega
                      intro v' wz hownz hgz _
                      have hsg := hgz.size
                      have GZ : Blk wz gx 26 #[.slice A1 L1.length k1, .slice A2 L2.length k2, .slice A3 L3.length k3, vk] := (hgz.block gx hGw.lt (fun e => by have := own_ge hown' _ e.symm; omega)).trans hGw
                      have butz := hbutw.grown hgz hsg (fun r e => own_ge hown' r e)
                      have bwz : Below w.heap.size w wz := hwz.grown hgz (by omega) (fun r e => by have := own_ge hown' r e; omega)
                      rw [← Nt.wrCells_append, show K.length + 1 = (K ++ [x]).length from by simp, ← HK.out] at hownz
                      have zz := GZ.cell (i := 3) rfl
                      have rz := GZ.free 3
                      have G7 : ∀ u, Blk (wz.setCell ⟨gx, 3, none⟩ u) gx 26 #[.slice A1 L1.length k1, .slice A2 L2.length k2, .slice A3 L3.length k3, u] := fun u => GZ.put 3 u
                      have O7 : ∀ u, (wz.setCell ⟨gx, 3, none⟩ u).ownsRow w8.heap.size 35 4 v' (Nt.mergedTo n m L3 (k + 1)).length (Nt.wrCells (Nt.mergedTo n m L3 (k + 1))) := fun u => own_stays hownz (fun r hr => Below.heap_setCell wz ⟨gx, 3, none⟩ u r (by have := own_ge hownz r hr; show r ≠ gx; omega))
                      have HQ := Lib.hid (And.intro G7 O7)
                      obtain ⟨gv, capv, rfl⟩ := own_len hownz (by rw [HK.out]; simp)
                      have b7z := fun u => butz.setA 3 u
                      have c7z := fun u => bwz.setCell (p := ⟨gx, 3, none⟩) (by show w.heap.size ≤ gx; omega) u
                      have HQ2 := Lib.hid (And.intro b7z c7z)
                      clear GZ hownz hgz hown' hy1 hGw G7 O7 b7z c7z hbutw
                      go_wp2_with fail
                      go_roundw
                      case rel => exact ⟨k + 1, _, by omega, by go_num, HQ.out.1 _, HQ.out.2 _, HQ2.out.1 _, HQ2.out.2 _⟩
                      case measure => simp [intOf]; omega
                    · rw [hin] at xB
                      have hi : Sp.inL L3 k = true := by rw [HIX.out]; exact hin
                      clear hin
                      have HK := Lib.hid (Nt.merged_blur (a := n) (b := m) hi)
                      have HGZ := Lib.hid (HG.out.later bz)
                      have HOZ := Lib.hid (own_later HOW.out bz)
                      have hbz := HBT.out.below bz
                      have hwz := below_on hbw9 bz
                      clear HG HOW HBT
                      go_wp2_with fail
                      go_roundw
                      case rel => exact ⟨k + 1, vk, by omega, by go_num, HGZ.out, by rw [HK.out]; exact HOZ.out, hbz, hwz⟩
                      case measure => simp [intOf]; omega
                  · have dn : decide (c < 0) = false := decide_eq_false hneg
                    have bz := bC
                    have hP : Blk w3 w1.heap.size 35 (Nt.wrArr y) := h13
                    have hpk : Nt.pick n m k = (y, true) := by
                      unfold Nt.pick
                      rw [hy, hx]
                      simp only [hc, hneg]; rfl
                    have xB := cell_later bz xM
                    obtain ⟨⟨p0, p1, p2, p3⟩, s0, s1, s2, s3⟩ := wr_cells hP
                    clear hP
                    cases hin : inX k
                    · rw [hin] at xB
                      have hi : Sp.inL L3 k = false := by rw [HIX.out]; exact hin
                      clear hin
                      have HK := Lib.hid (Nt.merged_yes hpk hi)
                      have hsz : (w3).heap.size = w3.heap.size := by simp
                      have bz2 := below_new bz (.cells #[.int .i64 y.1, .int .i64 y.2.1, .int .i64 y.2.2.1, .bool y.2.2.2] 35)
                      have hown' := own_later HOW.out bz2
                      have hy1 : Lies ((w3).alloc (.cells #[.int .i64 y.1, .int .i64 y.2.1, .int .i64 y.2.2.1, .bool y.2.2.2] 35)) (some ⟨w3.heap.size, 0, none⟩) (Nt.wrCells [y]) := fun _ => ⟨w3.heap.size, 0, rfl, fun j u hu => by
                        rw [Nat.zero_add, ← hsz]
                        exact (Blk.new (w3) 35 #[.int .i64 y.1, .int .i64 y.2.1, .int .i64 y.2.2.1, .bool y.2.2.2]).cell (by simpa [Nt.wrCells, Nt.wrCell] using hu)⟩
                      have z3 := cell_later bz (HG.out.cell (i := 3) rfl)
                      have hGw := HG.out.later bz2
                      have hbutw := HBT.out.below bz2
                      have hwz := below_on hbw9 bz2
                      have hszw := hbutw.1
                      have hkl := Nt.mergedTo_len n m L3 k
                      obtain ⟨K, hKK⟩ : ∃ K, Nt.mergedTo n m L3 k = K := ⟨_, rfl⟩
                      rw [hKK] at hown' hkl HK
                      clear HG HOW HBT hKK
                      go_wp2_with (at_builtin; refine Go.Proofs.Ytoaclofobfaflaa.wpList_append_lies _ rfl _ _ 24 rfl w8.heap.size 35 i0 (.agg #[.int .i64 0, .int .i64 0, .int .i64 0, .bool false]) 4 32 Try.underlying24 hI hZ0 hZ1 hZ2 rfl (by decide) _ K.length (Nt.wrCells K) rfl hown' (some ⟨w3.heap.size, 0, none⟩) 1 1 (fun h => by cases h) (Nt.wrCells [y]) rfl rfl hy1 (Nt.wrCells_one _) ?h63 ?hbytes hszw ?_)
                      case h63 => show K.length + 1 ≤ (9223372036854775807 : Nat); omega
                      case hbytes => omega
                      intro v' wz hownz hgz _
                      have hsg := hgz.size
                      have GZ : Blk wz gx 26 #[.slice A1 L1.length k1, .slice A2 L2.length k2, .slice A3 L3.length k3, vk] := (hgz.block gx hGw.lt (fun e => by have := own_ge hown' _ e.symm; omega)).trans hGw
                      have butz := hbutw.grown hgz hsg (fun r e => own_ge hown' r e)
                      have bwz : Below w.heap.size w wz := hwz.grown hgz (by omega) (fun r e => by have := own_ge hown' r e; omega)
                      rw [← Nt.wrCells_append, show K.length + 1 = (K ++ [y]).length from by simp, ← HK.out] at hownz
                      have zz := GZ.cell (i := 3) rfl
                      have rz := GZ.free 3
                      have G7 : ∀ u, Blk (wz.setCell ⟨gx, 3, none⟩ u) gx 26 #[.slice A1 L1.length k1, .slice A2 L2.length k2, .slice A3 L3.length k3, u] := fun u => GZ.put 3 u
                      have O7 : ∀ u, (wz.setCell ⟨gx, 3, none⟩ u).ownsRow w8.heap.size 35 4 v' (Nt.mergedTo n m L3 (k + 1)).length (Nt.wrCells (Nt.mergedTo n m L3 (k + 1))) := fun u => own_stays hownz (fun r hr => Below.heap_setCell wz ⟨gx, 3, none⟩ u r (by have := own_ge hownz r hr; show r ≠ gx; omega))
                      have HQ := Lib.hid (And.intro G7 O7)
                      obtain ⟨gv, capv, rfl⟩ := own_len hownz (by rw [HK.out]; simp)
                      have b7z := fun u => butz.setA 3 u
                      have c7z := fun u => bwz.setCell (p := ⟨gx, 3, none⟩) (by show w.heap.size ≤ gx; omega) u
                      have HQ2 := Lib.hid (And.intro b7z c7z)
                      clear GZ hownz hgz hown' hy1 hGw G7 O7 b7z c7z hbutw
                      go_wp2_with fail
                      go_roundw
                      case rel => exact ⟨k + 1, _, by omega, by go_num, HQ.out.1 _, HQ.out.2 _, HQ2.out.1 _, HQ2.out.2 _⟩
                      case measure => simp [intOf]; omega
                    · rw [hin] at xB
                      have hi : Sp.inL L3 k = true := by rw [HIX.out]; exact hin
                      clear hin
                      have HK := Lib.hid (Nt.merged_blur (a := n) (b := m) hi)
                      have HGZ := Lib.hid (HG.out.later bz)
                      have HOZ := Lib.hid (own_later HOW.out bz)
                      have hbz := HBT.out.below bz
                      have hwz := below_on hbw9 bz
                      clear HG HOW HBT
                      go_wp2_with fail
                      go_roundw
                      case rel => exact ⟨k + 1, vk, by omega, by go_num, HGZ.out, by rw [HK.out]; exact HOZ.out, hbz, hwz⟩
                      case measure => simp [intOf]; omega
            · have hkl : k = 256 := by omega
              subst hkl
              have HG := Lib.hid hG
              obtain ⟨A7, k7, hvk, hO7⟩ := OneW.of_own hown
              subst hvk
              obtain ⟨kw, hkw⟩ : ∃ kw, Nt.mergedTo n m L3 256 = kw := ⟨_, rfl⟩
              rw [hkw] at hO7 HG HT2
              have R6 := hbut.blk HB28.out (by omega) (by omega)
              have N6 : NoteAt wr A1 A2 A3 A7 k1 k2 k3 k7 ⟨L1, L2, L3, kw⟩ := ⟨HNX.out.hs.but hbut HX.out hsl.out HX.out hsl.out, HNX.out.he.but hbut HX.out hsl.out HX.out hsl.out, HNX.out.hb.but hbut HX.out hsl.out HX.out hsl.out, hO7⟩
              have G7' : Blk wr gx 26 (noteCells A1 A2 A3 A7 k1 k2 k3 k7 ⟨L1, L2, L3, kw⟩) := HG.out
              obtain ⟨y0, y1, y2, y3⟩ := note_cells G7'
              obtain ⟨⟨q0, q1, q2, q3⟩, s0, s1, s2, s3⟩ := nt_cells R6
              have N8 := N6.puts R6 ⟨rfl, rfl, rfl, rfl⟩ (.slice A1 L1.length k1) (.slice A2 L2.length k2) (.slice A3 L3.length k3) (.slice A7 kw.length k7) ⟨rfl, rfl, rfl⟩
              have HN8 := Lib.hid N8
              have HR6 := Lib.hid R6
              clear N6 N8 R6 G7' HG hO7 hown hG hbut
              go_wp2
              refine bodyPost_ret (results_cell_tmp (p := 4) (t1 := 5) (ty := 26) rfl _ _ (w.heap.size + 2) 26 (noteCells A1 A2 A3 A7 k1 k2 k3 k7 ⟨L1, L2, L3, kw⟩) _ rfl (nt_puts HR6.out A1 A2 A3 A7 k1 k2 k3 k7 ⟨L1, L2, L3, kw⟩) Try.underlying26 rfl infoNt) rfl ?_
              rw [HT2.out]
              exact ⟨_, _, _, _, _, _, _, _, rfl, HN8.out, below_puts hbw9 (by omega) _ _ _ _⟩

end Go.Proofs.Ytoaclofobfaflaa
namespace Go.Proofs.Ytoaclofobfaflaa
open Go.RowKit

structure NoteSpec : Prop where
  formed : ∀ S E B V cs ce cb cv n w, NoteAt w S E B V cs ce cb cv n → Calls Try.prog 12 #[.agg (noteCells S E B V cs ce cb cv n)] w (Says (.bool (Nt.fmd n)) w)
  fits : ∀ S E B V A cs ce cb cv c n l w, NoteAt w S E B V cs ce cb cv n → OneL w A c l → Calls Try.prog 14 #[.agg (noteCells S E B V cs ce cb cv n), .slice A l.length c] w (Says (.bool (Ve.cov (Ve.cnt l) (Ve.cnt n.s))) w)
  news : ∀ S E B V A cs ce cb cv c n l w, NoteAt w S E B V cs ce cb cv n → OneL w A c l → Calls Try.prog 16 #[.agg (noteCells S E B V cs ce cb cv n), .slice A l.length c] w (Says (.bool (!Ve.cov (Ve.cnt l) (Ve.cnt n.e))) w)
  of_ : ∀ A c l y w, l.length * 16 ≤ 140737488355328 → OneL w A c l → Calls Try.prog 20 #[.slice A l.length c, .agg (Nt.wrArr y)] w (AnsNE (ofN l y).1 (ofN l y).2 w)
  told : ∀ S E B V cs ce cb cv n o w, NoteAt w S E B V cs ce cb cv n → Calls Try.prog 23 #[.agg (noteCells S E B V cs ce cb cv n), .int .i64 o] w (Says (Nt.toldV (Nt.told n o)) w)
  through : ∀ S E B V I cs ce cb cv ci n it w, n.s.length * 16 ≤ 140737488355328 → n.e.length * 16 ≤ 140737488355328 → n.ws.length * 32 ≤ 140737488355328 → NoteAt w S E B V cs ce cb cv n → OneL w I ci it → Calls Try.prog 25 #[.agg (noteCells S E B V cs ce cb cv n), .slice I it.length ci] w (AnsNE (Nt.through n it).1 (Nt.through n it).2 w)

/-- With Merge. -/
structure MergeSpec : Prop extends NoteSpec where
  merge : ∀ S E B V S' E' B' V' cs ce cb cv cs' ce' cb' cv' n m w, NoteAt w S E B V cs ce cb cv n → NoteAt w S' E' B' V' cs' ce' cb' cv' m → Calls Try.prog 27 #[.agg (noteCells S E B V cs ce cb cv n), .agg (noteCells S' E' B' V' cs' ce' cb' cv' m)] w (AnsNE (Nt.merge n m).1 (Nt.merge n m).2 w)

/-- The note that 'alive' makes. -/
def nAlive : Note := ⟨[(5, 0)], [(5, 0), (6, 1)], [], [(6, 1, 3, false)]⟩
theorem nalive_of : ofN [(5, 0)] (6, 1, 3, false) = (nAlive, 0) := by kernel_rfl
theorem nalive_fmd : Nt.fmd nAlive = true := by kernel_rfl
theorem nalive_news : (!Ve.cov (Ve.cnt nAlive.s) (Ve.cnt nAlive.e)) = true := by kernel_rfl
theorem nalive_old : (!Ve.cov (Ve.cnt nAlive.e) (Ve.cnt nAlive.e)) = false := by kernel_rfl

set_option maxRecDepth 100000 in
set_option maxHeartbeats 1600000 in
theorem nalive_any (SP : NoteSpec) (w : World) : Calls Try.prog 10 #[] w (Says (.bool true) w) := by
  have b0 := below_new (Below.refl w.heap.size w) (.cells #[.int .i64 5, .int .i64 0] 33)
  have hB := Blk.new w 33 #[.int .i64 5, .int .i64 0]
  have hO : OneL (w.alloc (.cells #[.int .i64 5, .int .i64 0] 33)) (some ⟨w.heap.size, 0, none⟩) 1 [(5, 0)] := ⟨Nat.le_refl _, by show (1 : Nat) ≤ 9223372036854775807; omega, (fun h => by cases h), fun _ => ⟨w.heap.size, 0, rfl, fun j u hu => by
    rw [Nat.zero_add]
    exact hB.cell (by simpa [stCells] using hu)⟩⟩
  have n1 := SP.of_ (some ⟨w.heap.size, 0, none⟩) 1 [(5, 0)] (6, 1, 3, false) _ (by simp) hO
  rw [nalive_of] at n1
  have N1 := Lib.hid (show Calls Try.prog 20 #[.slice (some ⟨w.heap.size, 0, none⟩) 1 1, .agg #[.int .i64 6, .int .i64 1, .int .i64 3, .bool false]] (w.alloc (.cells #[.int .i64 5, .int .i64 0] 33)) (AnsNE nAlive 0 (w.alloc (.cells #[.int .i64 5, .int .i64 0] 33))) from n1)
  clear n1 hO hB
  go_enter Try.func10, Try.ntmps10
  go_wp2_with fail
  refine N1.out.mono ?_
  rintro e w1 ⟨A1, A2, A3, A4, k1, k2, k3, k4, rfl, hN, b1⟩
  rw [show noteCells A1 A2 A3 A4 k1 k2 k3 k4 nAlive = #[.slice A1 1 k1, .slice A2 2 k2, .slice A3 0 k3, .slice A4 1 k4] from rfl]
  have bA := below_new b1 (.cells #[.slice A1 1 k1, .slice A2 2 k2, .slice A3 0 k3, .slice A4 1 k4] 26)
  have hN2 := hN.later (below_new (Below.refl _ _) (.cells #[.slice A1 1 k1, .slice A2 2 k2, .slice A3 0 k3, .slice A4 1 k4] 26))
  have HB := Lib.hid (Blk.new w1 26 #[.slice A1 1 k1, .slice A2 2 k2, .slice A3 0 k3, .slice A4 1 k4])
  obtain ⟨⟨c0, c1, c2, c3⟩, _⟩ := nt_cells HB.out
  have F := Lib.hid (fun wx hx => (show Calls Try.prog 12 #[.agg #[.slice A1 1 k1, .slice A2 2 k2, .slice A3 0 k3, .slice A4 1 k4]] wx (Says (.bool true) wx) from by have q := SP.formed A1 A2 A3 A4 k1 k2 k3 k4 nAlive wx hx; rw [nalive_fmd] at q; exact q))
  have G := Lib.hid (fun wx (hx : NoteAt wx A1 A2 A3 A4 k1 k2 k3 k4 nAlive) => (show Calls Try.prog 16 #[.agg #[.slice A1 1 k1, .slice A2 2 k2, .slice A3 0 k3, .slice A4 1 k4], .slice A1 1 k1] wx (Says (.bool true) wx) from by have q := SP.news A1 A2 A3 A4 A1 k1 k2 k3 k4 k1 nAlive nAlive.s wx hx hx.hs; rw [nalive_news] at q; exact q))
  have H := Lib.hid (fun wx (hx : NoteAt wx A1 A2 A3 A4 k1 k2 k3 k4 nAlive) => (show Calls Try.prog 16 #[.agg #[.slice A1 1 k1, .slice A2 2 k2, .slice A3 0 k3, .slice A4 1 k4], .slice A2 2 k2] wx (Says (.bool false) wx) from by have q := SP.news A1 A2 A3 A4 A2 k1 k2 k3 k4 k2 nAlive nAlive.e wx hx hx.he; rw [nalive_old] at q; exact q))
  have HN := Lib.hid hN2
  clear hN hN2 N1
  go_wp2_with fail
  refine (F.out _ HN.out).mono ?_
  rintro e w2 ⟨rfl, b2⟩
  have d0 := cell_later b2 c0
  have d1 := cell_later b2 c1
  have d2 := cell_later b2 c2
  have d3 := cell_later b2 c3
  go_wp2_with fail
  refine (G.out _ (HN.out.later b2)).mono ?_
  rintro e w3 ⟨rfl, b3⟩
  have bb3 := below_on b2 b3
  have e0 := cell_later bb3 c0
  have e1 := cell_later bb3 c1
  have e2 := cell_later bb3 c2
  have e3 := cell_later bb3 c3
  go_wp2_with fail
  refine (H.out _ (HN.out.later bb3)).mono ?_
  rintro e w4 ⟨rfl, b4⟩
  go_wp2
  go_ret
  exact ⟨rfl, below_on (below_on b0 bA) (below_on bb3 b4)⟩

end Go.Proofs.Ytoaclofobfaflaa
namespace Go.Proofs.Ytoaclofobfaflaa
namespace Nt
def wrGood (n : Note) (x : Wr) : Prop := hasOf n.e x.1 x.2.1 = true ∧ (0 ≤ x.2.2.1 ∧ x.2.2.1 ≤ 255) ∧ inOf n.b x.2.2.1 = false
theorem getD_lt {l : List Wr} {k : Nat} (hk : k < l.length) : l.getD k zeroW = l[k] := by rw [List.getD_eq_getElem?_getD, List.getElem?_eq_getElem hk]; rfl
theorem obj_up {n : Note} (h : wsTo n n.ws.length) (i : Nat) : ∀ d, i + d + 1 < n.ws.length → obj n.ws i < obj n.ws (i + d + 1)
  | 0, hd => by
    have := (h (i + 1) hd).2.2.2 (by omega)
    simpa using this
  | d + 1, hd => by
    have h1 := obj_up h i d (by omega)
    have h2 := (h (i + d + 1 + 1) (by omega)).2.2.2 (by omega)
    have e : i + d + 1 + 1 - 1 = i + d + 1 := by omega
    rw [e] at h2
    have e2 : i + (d + 1) + 1 = i + d + 1 + 1 := by omega
    rw [e2]
    omega
theorem wsTo_list (n : Note) : wsTo n n.ws.length ↔ (∀ x ∈ n.ws, wrGood n x) ∧ n.ws.Pairwise (fun x y => x.2.2.1 < y.2.2.1) := by
  constructor
  · intro h
    refine ⟨fun x hx => ?_, ?_⟩
    · obtain ⟨k, hk, rfl⟩ := List.mem_iff_getElem.1 hx
      have h1 := h k hk
      unfold obj at h1
      rw [getD_lt hk] at h1
      exact ⟨h1.1, h1.2.1, h1.2.2.1⟩
    · rw [List.pairwise_iff_getElem]
      intro i j hi hj hij
      have h1 := obj_up h i (j - i - 1) (by omega)
      rw [show i + (j - i - 1) + 1 = j from by omega] at h1
      unfold obj at h1
      rw [getD_lt hi, getD_lt hj] at h1
      exact h1
  · rintro ⟨h1, h2⟩ k hk
    rw [List.pairwise_iff_getElem] at h2
    have g := h1 n.ws[k] (List.getElem_mem hk)
    unfold obj
    rw [getD_lt hk]
    refine ⟨g.1, g.2.1, g.2.2, fun h0 => ?_⟩
    rw [getD_lt (show k - 1 < n.ws.length from by omega)]
    exact h2 (k - 1) k (by omega) hk (by omega)
theorem inOf_blur {n : Note} {it : List (Int × Int)} {x : Wr} (hg : wrGood n x) (hi : Sp.inL it x.2.2.1.toNat = true) : inOf (Sp.ofL (blurTo n it n.ws.length)) x.2.2.1 = false := by
  obtain ⟨_, ⟨h0, h1⟩, h2⟩ := hg
  unfold inOf at h2 ⊢
  rw [decide_eq_true ⟨h0, h1⟩, Bool.true_and] at h2 ⊢
  rw [Sp.inL_ofL _ _ (by omega)]
  unfold blurTo
  rw [h2, Bool.false_or, List.any_eq_false]
  intro y hy
  simp [hi]
theorem through_form (n : Note) (it : List (Int × Int)) : ((through n it).2 = 0 ∧ fmd (through n it).1 = true) ∨ (through n it).2 = 1 := by
  unfold through
  cases hf : fmd n with
  | false => exact .inr (by rw [if_neg (by simp)])
  | true =>
    refine .inl ?_
    rw [if_pos rfl]
    refine ⟨rfl, ?_⟩
    unfold fmd at hf ⊢
    simp only [Bool.and_eq_true] at hf ⊢
    obtain ⟨f1, f2, f3, _, f5⟩ := hf
    obtain ⟨g1, g2⟩ := (wsTo_list n).1 ((wsOk_iff n).1 f5)
    refine ⟨f1, f2, f3, Sp.fmd_ofL _, (wsOk_iff _).2 ((wsTo_list _).2 ⟨fun x hx => ?_, ?_⟩)⟩
    · have hx' := hx
      simp only [keptTo, List.take_length, List.mem_filter] at hx'
      have hg := g1 x hx'.1
      exact ⟨hg.1, hg.2.1, inOf_blur hg hx'.2⟩
    · show (keptTo n.ws it n.ws.length).Pairwise _
      unfold keptTo
      rw [List.take_length]
      exact g2.filter _
theorem count_mono {l r : List (Int × Int)} (h : Ve.cov (Ve.cnt r) (Ve.cnt l) = true) (n : Int) : countOf l n ≤ countOf r n := by
  have h1 := (Ve.cov_iff _ _).1 h
  unfold countOf
  split
  · exact h1 _ (by omega)
  · exact Int.le_refl _
theorem has_mono {l r : List (Int × Int)} (h : Ve.cov (Ve.cnt r) (Ve.cnt l) = true) {c n : Int} (hh : hasOf l c n = true) : hasOf r c n = true := by
  have h1 := count_mono h n
  unfold hasOf at hh ⊢
  simp only [Bool.and_eq_true, decide_eq_true_eq] at hh ⊢
  exact ⟨hh.1, by omega⟩
theorem at_mem {l : List Wr} {o : Int} {x : Wr} (h : at_ l o = (x, true)) : x ∈ l ∧ x.2.2.1 = o := by
  unfold at_ at h
  cases hf : l.find? (fun x => decide (x.2.2.1 = o)) with
  | none => rw [hf] at h; simp at h
  | some y =>
    rw [hf] at h
    simp only [Prod.mk.injEq, and_true] at h
    subst h
    exact ⟨List.mem_of_find?_eq_some hf, by simpa using List.find?_some hf⟩
/-- What is picked lies in one of both, at that object. -/
theorem pick_mem {a b : Note} {k : Nat} {p : Wr} (h : pick a b k = (p, true)) : (p ∈ a.ws ∨ p ∈ b.ws) ∧ p.2.2.1 = (k : Int) := by
  unfold pick at h
  obtain ⟨⟨y, yo⟩, hy⟩ : ∃ r, at_ a.ws (k : Int) = r := ⟨_, rfl⟩
  obtain ⟨⟨x, xo⟩, hx⟩ : ∃ r, at_ b.ws (k : Int) = r := ⟨_, rfl⟩
  rw [hy, hx] at h
  simp only [Prod.mk.injEq] at h
  obtain ⟨h1, h2⟩ := h
  by_cases hc : xo = true ∧ (yo = false ∨ St.cmpS y.1 y.2.1 x.1 x.2.1 < 0)
  · rw [if_pos hc] at h1
    subst h1
    obtain ⟨rfl, _⟩ := hc
    exact ⟨.inr (at_mem hx).1, (at_mem hx).2⟩
  · rw [if_neg hc] at h1
    subst h1
    cases yo with
    | true => exact ⟨.inl (at_mem hy).1, (at_mem hy).2⟩
    | false =>
      cases xo with
      | true => exact absurd ⟨rfl, .inl rfl⟩ hc
      | false => cases h2
theorem merged_in {a b : Note} {bl : List (Int × Int)} : ∀ k, (∀ x ∈ mergedTo a b bl k, (x ∈ a.ws ∨ x ∈ b.ws) ∧ Sp.inL bl x.2.2.1.toNat = false ∧ 0 ≤ x.2.2.1 ∧ x.2.2.1 < (k : Int)) ∧ (mergedTo a b bl k).Pairwise (fun x y => x.2.2.1 < y.2.2.1)
  | 0 => ⟨fun x hx => by simp [mergedTo] at hx, List.Pairwise.nil⟩
  | k + 1 => by
    obtain ⟨h1, h2⟩ := merged_in (a := a) (b := b) (bl := bl) k
    obtain ⟨⟨p, has⟩, hp⟩ : ∃ r, pick a b k = r := ⟨_, rfl⟩
    by_cases hc : has = true ∧ Sp.inL bl k = false
    · obtain ⟨rfl, hi⟩ := hc
      rw [merged_yes hp hi]
      obtain ⟨g1, g2⟩ := pick_mem hp
      constructor
      · intro x hx
        rcases List.mem_append.1 hx with hx | hx
        · obtain ⟨q1, q2, q3, q4⟩ := h1 x hx
          exact ⟨q1, q2, q3, by omega⟩
        · rw [List.mem_singleton] at hx
          subst hx
          exact ⟨g1, by rw [g2]; exact hi, by omega, by omega⟩
      · rw [List.pairwise_append]
        refine ⟨h2, List.pairwise_singleton _ _, fun x hx y hy => ?_⟩
        rw [List.mem_singleton] at hy
        subst hy
        have := (h1 x hx).2.2.2
        omega
    · have e : mergedTo a b bl (k + 1) = mergedTo a b bl k := by
        show mergedTo a b bl k ++ (if (pick a b k).2 = true ∧ Sp.inL bl k = false then [(pick a b k).1] else []) = _
        rw [hp, if_neg hc, List.append_nil]
      rw [e]
      exact ⟨fun x hx => by obtain ⟨q1, q2, q3, q4⟩ := h1 x hx; exact ⟨q1, q2, q3, by omega⟩, h2⟩
theorem merge_form (a b : Note) : ((merge a b).2 = 0 ∧ fmd (merge a b).1 = true) ∨ (merge a b).2 = 1 := by
  unfold merge
  by_cases hc : fmd a = true ∧ fmd b = true
  · refine .inl ?_
    rw [if_pos hc]
    refine ⟨rfl, ?_⟩
    obtain ⟨ha, hb⟩ := hc
    unfold fmd at ha hb ⊢
    simp only [Bool.and_eq_true] at ha hb ⊢
    obtain ⟨a1, a2, a3, _, a5⟩ := ha
    obtain ⟨b1, b2, b3, _, b5⟩ := hb
    obtain ⟨ga, _⟩ := (wsTo_list a).1 ((wsOk_iff a).1 a5)
    obtain ⟨gb, _⟩ := (wsTo_list b).1 ((wsOk_iff b).1 b5)
    have ja := Ve.cov_join_left a.e b.e
    have jb := Ve.cov_join_right a.e b.e
    refine ⟨Ve.fmd_ofL _, Ve.fmd_joinL _, ?_, Sp.fmd_ofL _, (wsOk_iff _).2 ((wsTo_list _).2 ⟨fun x hx => ?_, (merged_in 256).2⟩)⟩
    · rw [Ve.cov_iff]
      intro i hi
      rw [Ve.cnt_ofL _ (fun j => by unfold thrifty; split <;> exact Ve.cnt_nonneg _ _) i hi]
      have q1 := (Ve.cov_iff _ _).1 ja i hi
      have q2 := (Ve.cov_iff _ _).1 jb i hi
      have q3 := (Ve.cov_iff _ _).1 a3 i hi
      have q4 := (Ve.cov_iff _ _).1 b3 i hi
      unfold thrifty
      split <;> omega
    · obtain ⟨q1, q2, q3, q4⟩ := (merged_in 256).1 x hx
      refine ⟨?_, ⟨q3, by omega⟩, ?_⟩
      · rcases q1 with q1 | q1
        · exact has_mono ja (ga x q1).1
        · exact has_mono jb (gb x q1).1
      · show inOf (Sp.joinS [a.b, b.b]) x.2.2.1 = false
        unfold inOf
        rw [q2, Bool.and_false]
  · exact .inr (by rw [if_neg hc])
theorem through_yes {n : Note} (it : List (Int × Int)) (hf : fmd n = true) : through n it = (⟨n.s, n.e, Sp.ofL (blurTo n it n.ws.length), n.ws.filter fun x => Sp.inL it x.2.2.1.toNat⟩, 0) := by
  unfold through keptTo
  rw [if_pos hf, List.take_length]
theorem fmd_parts {n : Note} (hf : fmd n = true) : Sp.fmd n.b = true ∧ ∀ x ∈ n.ws, wrGood n x := by
  unfold fmd at hf
  simp only [Bool.and_eq_true] at hf
  exact ⟨hf.2.2.2.1, ((wsTo_list n).1 ((wsOk_iff n).1 hf.2.2.2.2)).1⟩
theorem through_twice {n : Note} (a b : List (Int × Int)) (hf : fmd n = true) : through (through n a).1 b = through n (Sp.meetS a b) := by
  have hx : fmd (through n a).1 = true := by
    rcases through_form n a with h | h
    · exact h.2
    · rw [through_yes a hf] at h; cases h
  rw [through_yes b hx, through_yes (Sp.meetS a b) hf]
  obtain ⟨_, hg⟩ := fmd_parts hf
  have hm : ∀ x ∈ n.ws, Sp.inL (Sp.meetS a b) x.2.2.1.toNat = (Sp.inL a x.2.2.1.toNat && Sp.inL b x.2.2.1.toNat) := fun x hx => by
    have := (hg x hx).2.1
    unfold Sp.meetS
    rw [Sp.inL_ofL _ _ (by omega)]
  have e1 : (through n a).1.ws = n.ws.filter fun x => Sp.inL a x.2.2.1.toNat := by rw [through_yes a hf]
  have e2 : (through n a).1.b = Sp.ofL (blurTo n a n.ws.length) := by rw [through_yes a hf]
  have e3 : (through n a).1.s = n.s := by rw [through_yes a hf]
  have e4 : (through n a).1.e = n.e := by rw [through_yes a hf]
  rw [e3, e4]
  have k1 : (through n a).1.ws.filter (fun x => Sp.inL b x.2.2.1.toNat) = n.ws.filter fun x => Sp.inL (Sp.meetS a b) x.2.2.1.toNat := by
    rw [e1, List.filter_filter]
    refine List.filter_congr fun x hx => ?_
    rw [hm x hx, Bool.and_comm]
  have k2 : Sp.ofL (blurTo (through n a).1 b (through n a).1.ws.length) = Sp.ofL (blurTo n (Sp.meetS a b) n.ws.length) := by
    refine Sp.ofL_ext fun o ho => ?_
    unfold blurTo
    rw [List.take_length, List.take_length, e2, Sp.inL_ofL _ o ho, e1]
    unfold blurTo
    rw [List.take_length, Bool.eq_iff_iff]
    have hmo : Sp.inL (Sp.meetS a b) o = (Sp.inL a o && Sp.inL b o) := by
      unfold Sp.meetS
      rw [Sp.inL_ofL _ o ho]
    rw [hmo]
    simp only [Bool.or_eq_true, List.any_eq_true, Bool.and_eq_true, decide_eq_true_eq, Bool.not_eq_true', List.mem_filter, Bool.and_eq_false_iff]
    constructor
    · rintro ((h | ⟨x, h1, h2, h3⟩) | ⟨x, ⟨h1, h4⟩, h2, h3⟩)
      · exact .inl h
      · exact .inr ⟨x, h1, h2, .inl h3⟩
      · exact .inr ⟨x, h1, h2, .inr h3⟩
    · rintro (h | ⟨x, h1, h2, h3 | h3⟩)
      · exact .inl (.inl h)
      · exact .inl (.inr ⟨x, h1, h2, h3⟩)
      · cases ha : Sp.inL a o with
        | false => exact .inl (.inr ⟨x, h1, h2, rfl⟩)
        | true => exact .inr ⟨x, ⟨h1, by rw [h2]; simpa using ha⟩, h2, h3⟩
  rw [k1, k2]
theorem inL_whole (o : Nat) (ho : o < 256) : Sp.inL [(0, 255)] o = true := by
  simp [Sp.inL]
  omega
theorem through_all {n : Note} (hf : fmd n = true) : through n [(0, 255)] = (n, 0) := by
  obtain ⟨hb, hg⟩ := fmd_parts hf
  rw [through_yes _ hf]
  have k1 : n.ws.filter (fun x => Sp.inL [(0, 255)] x.2.2.1.toNat) = n.ws := by
    rw [List.filter_eq_self]
    intro x hx
    have := (hg x hx).2.1
    exact inL_whole _ (by omega)
  have k2 : Sp.ofL (blurTo n [(0, 255)] n.ws.length) = n.b := by
    refine Eq.trans (Sp.ofL_ext fun o ho => ?_) (Sp.ofL_self ((Sp.fmd_iff _).1 hb))
    unfold blurTo
    rw [inL_whole o ho]
    simp
  rw [k1, k2]
end Nt
end Go.Proofs.Ytoaclofobfaflaa
