/-
  Worlds that agree but for two blocks and for what is new. Nothing of the program is imported.
  What telltaleref04's Through answers.
  What the functions of package stamp (Compare, and Right beside it), those of telltaleref01, and cmp.Compare at int answer, for all arguments; each leaves the memory that was there as it was.
  What telltaleref04's Merge answers.
-/
import Derived.Test.YtoaclofobfaflaaG03
import Derived.Test.YtoaclofobfaflaaG14
import Derived.Deep.AppendLies
import Derived.Deep.RegionLaw
import Derived.Test.YtoaclofobfaflaaProg
import Derived.Test.YtoaclofobfaflaaG06
import Derived.Tactics
import Derived.Tactics2
import Derived.WalkKit
import Derived.WalkSpells
import Derived.OwnWalk
import Derived.Deep.QuietTactic
import Derived.BigQuiet
import Derived.Deep.RegionHeld3
import Derived.KernelRfl
import Derived.Lib.Hide
namespace Go.Proofs.Ytoaclofobfaflaa
open Go.RowKit

/-- All that lay is as it was, but for the blocks a and b. -/
def But (a b : Nat) (w w' : World) : Prop := w.heap.size ≤ w'.heap.size ∧ ∀ k, k < w.heap.size → k ≠ a → k ≠ b → w'.heap[k]? = w.heap[k]?
section
variable {a b : Nat} {w w1 w2 : World}
theorem But.refl (a b : Nat) (w : World) : But a b w w := ⟨Nat.le_refl _, fun _ _ _ _ => rfl⟩
theorem But.below (h : But a b w w1) (hb : Below w1.heap.size w1 w2) : But a b w w2 := ⟨Nat.le_trans h.1 hb.size, fun k hk h1 h2 => (hb.block k (by have := h.1; omega)).trans (h.2 k hk h1 h2)⟩
theorem But.drew (h : But a b w w1) : But a b w w1.drew := h
theorem But.alloc (h : But a b w w1) (o : Obj) : But a b w (w1.alloc o) := h.below (below_new (Below.refl _ _) o)
theorem But.setA (h : But a b w w1) (i : Nat) (x : Value) : But a b w (w1.setCell ⟨a, i, none⟩ x) := ⟨by simpa using h.1, fun k hk h1 h2 => (Below.heap_setCell w1 ⟨a, i, none⟩ x k h1).trans (h.2 k hk h1 h2)⟩
theorem But.setB (h : But a b w w1) (i : Nat) (x : Value) : But a b w (w1.setCell ⟨b, i, none⟩ x) := ⟨by simpa using h.1, fun k hk h1 h2 => (Below.heap_setCell w1 ⟨b, i, none⟩ x k h2).trans (h.2 k hk h1 h2)⟩
theorem But.grown (h : But a b w w1) {row : Option Nat} (hg : w1.grownBy w2 row) (hs : w1.heap.size ≤ w2.heap.size) (hr : ∀ r, row = some r → w.heap.size ≤ r) : But a b w w2 :=
  ⟨Nat.le_trans h.1 hs, fun k hk h1 h2 => (hg.block k (by have := h.1; omega) (fun e => by have := hr k e.symm; omega)).trans (h.2 k hk h1 h2)⟩
theorem But.blk (h : But a b w w1) {g : Nat} {t : TypeId} {cs : Array Value} (hB : Blk w g t cs) (h1 : g ≠ a) (h2 : g ≠ b) : Blk w1 g t cs := (h.2 g hB.lt h1 h2).trans hB
def isInt : Value → Bool
  | .int .. => true
  | _ => false
/-- A list that begins with a whole number doesn't lie in a block that holds none. -/
theorem lies_far {A : Option Addr} {xs : List Value} {u : Value} (h : Lies w A (u :: xs)) (hu : isInt u = true) {g : Nat} {t : TypeId} {cs : Array Value} (hB : Blk w g t cs) (hc : ∀ x ∈ cs.toList, isInt x = false) : ∀ p, A = some p → p.block ≠ g := fun p hp e => by
  obtain ⟨c, off, hA, hl⟩ := h (by simp)
  rw [hp] at hA
  injection hA with hA
  subst hA
  simp only at e
  subst e
  have h1 := hl 0 u rfl
  rw [Nat.add_zero, cell_of_row w c off cs t (0, 0) hB] at h1
  have h2 := hc u (Array.mem_toList_iff.2 (Array.mem_of_getElem? h1))
  rw [hu] at h2
  cases h2
theorem Lies.but {A : Option Addr} {xs : List Value} (h : Lies w A xs) (hb : But a b w w1) (hi : ∀ u r, xs = u :: r → isInt u = true) {ta tb : TypeId} {ca cb : Array Value} (hA : Blk w a ta ca) (hca : ∀ x ∈ ca.toList, isInt x = false) (hB : Blk w b tb cb) (hcb : ∀ x ∈ cb.toList, isInt x = false) : Lies w1 A xs := by
  cases xs with
  | nil => exact Lies.nil
  | cons u r =>
    have f1 := lies_far h (hi u r rfl) hA hca
    have f2 := lies_far h (hi u r rfl) hB hcb
    intro hne
    obtain ⟨c, off, hA', hl⟩ := h hne
    refine ⟨c, off, hA', fun j x hx => ?_⟩
    have h1 := hl j x hx
    have hlt := World.block_lt_of_cell? _ _ h1
    exact (World.cell?_of_block (a := ⟨c, off + j, none⟩) (hb.2 c hlt (f1 _ hA') (f2 _ hA'))).trans h1
theorem OneL.but {A : Option Addr} {c : Nat} {l : List (Int × Int)} (h : OneL w A c l) (hb : But a b w w1) {ta tb : TypeId} {ca cb : Array Value} (hA : Blk w a ta ca) (hca : ∀ x ∈ ca.toList, isInt x = false) (hB : Blk w b tb cb) (hcb : ∀ x ∈ cb.toList, isInt x = false) : OneL w1 A c l :=
  ⟨h.1, h.2.1, h.2.2.1, h.2.2.2.but hb (fun u r e => by cases l with | nil => cases e | cons s q => cases e; rfl) hA hca hB hcb⟩
theorem OneW.but {A : Option Addr} {c : Nat} {l : List Wr} (h : OneW w A c l) (hb : But a b w w1) {ta tb : TypeId} {ca cb : Array Value} (hA : Blk w a ta ca) (hca : ∀ x ∈ ca.toList, isInt x = false) (hB : Blk w b tb cb) (hcb : ∀ x ∈ cb.toList, isInt x = false) : OneW w1 A c l :=
  ⟨h.1, h.2.1, h.2.2.1, h.2.2.2.but hb (fun u r e => by cases l with | nil => cases e | cons s q => cases e; rfl) hA hca hB hcb⟩
end

theorem marks_noInt (f : Nat → Bool) : ∀ x ∈ (Sp.arr f).toList, isInt x = false := by
  intro x hx
  unfold Sp.arr at hx
  simp at hx
  obtain ⟨i, _, rfl⟩ := hx
  rfl

end Go.Proofs.Ytoaclofobfaflaa
namespace Go.Proofs.Ytoaclofobfaflaa
open Go.RowKit Fb

namespace Nt
/-- What is kept of the first k writes; what becomes blurred of them. -/
def keptTo (ws : List Wr) (it : List (Int × Int)) (k : Nat) : List Wr := (ws.take k).filter fun x => Sp.inL it x.2.2.1.toNat
def blurTo (n : Note) (it : List (Int × Int)) (k : Nat) (o : Nat) : Bool := Sp.inL n.b o || (n.ws.take k).any fun x => decide (x.2.2.1 = (o : Int)) && !Sp.inL it o
/-- A note as one sees it who has an interest. -/
def through (n : Note) (it : List (Int × Int)) : Note × Int := if fmd n = true then (⟨n.s, n.e, Sp.ofL (blurTo n it n.ws.length), keptTo n.ws it n.ws.length⟩, 0) else (noNote, 1)
theorem kept_yes {ws : List Wr} {it : List (Int × Int)} {k : Nat} (hk : k < ws.length) (h : Sp.inL it (obj ws k).toNat = true) : keptTo ws it (k + 1) = keptTo ws it k ++ [ws.getD k zeroW] := by
  unfold keptTo obj at *
  have e : ws.getD k zeroW = ws[k] := by rw [List.getD_eq_getElem?_getD, List.getElem?_eq_getElem hk]; rfl
  rw [e] at h ⊢
  rw [List.take_succ_eq_append_getElem hk, List.filter_append]
  simp [h]
theorem kept_no {ws : List Wr} {it : List (Int × Int)} {k : Nat} (hk : k < ws.length) (h : Sp.inL it (obj ws k).toNat = false) : keptTo ws it (k + 1) = keptTo ws it k := by
  unfold keptTo obj at *
  have e : ws.getD k zeroW = ws[k] := by rw [List.getD_eq_getElem?_getD, List.getElem?_eq_getElem hk]; rfl
  rw [e] at h
  rw [List.take_succ_eq_append_getElem hk, List.filter_append]
  simp [h]
theorem kept_len (ws : List Wr) (it : List (Int × Int)) (k : Nat) : (keptTo ws it k).length ≤ k := by
  unfold keptTo
  have h1 := List.length_filter_le (fun x : Wr => Sp.inL it x.2.2.1.toNat) (ws.take k)
  rw [List.length_take] at h1
  omega
theorem blur_step {n : Note} {it : List (Int × Int)} {k : Nat} (hk : k < n.ws.length) (o : Nat) : blurTo n it (k + 1) o = (blurTo n it k o || (decide (obj n.ws k = (o : Int)) && !Sp.inL it o)) := by
  unfold blurTo obj
  have e : n.ws.getD k zeroW = n.ws[k] := by rw [List.getD_eq_getElem?_getD, List.getElem?_eq_getElem hk]; rfl
  rw [e, List.take_succ_eq_append_getElem hk, List.any_append, ← Bool.or_assoc]
  simp
end Nt
theorem marks_zero2 : Try.zeroCells69 = Sp.arr (fun _ => false) := marks_zero

set_option maxRecDepth 100000 in
set_option maxHeartbeats 6400000 in
theorem nthrough_any (S E B V I : Option Addr) (cs ce cb cv ci : Nat) (n : Note) (it : List (Int × Int)) (w : World) (hls : n.s.length * 16 ≤ 140737488355328) (hle : n.e.length * 16 ≤ 140737488355328) (hlw : n.ws.length * 32 ≤ 140737488355328) (h1 : NoteAt w S E B V cs ce cb cv n) (h2 : OneL w I ci it) :
    Calls Try.prog 26 #[.agg (noteCells S E B V cs ce cb cv n), .slice I it.length ci] w (AnsNE (Nt.through n it).1 (Nt.through n it).2 w) := by
  obtain ⟨i0, hI, hZ0, hZ1, hZ2⟩ := info_parts infoWr
  obtain ⟨W, hW⟩ : ∃ W, (w.alloc (.cells (noteCells S E B V cs ce cb cv n) 26)).alloc (.cells #[.slice none 0 0, .slice none 0 0, .slice none 0 0, .slice none 0 0] 26) = W := ⟨_, rfl⟩
  have hb0 : Below w.heap.size w W := by rw [← hW]; exact below_new (below_new (Below.refl _ _) _) _
  have hB0 : Blk W w.heap.size 26 (noteCells S E B V cs ce cb cv n) := by rw [← hW]; exact (Blk.new w _ _).alloc _
  have hB1 : Blk W (w.heap.size + 1) 26 #[.slice none 0 0, .slice none 0 0, .slice none 0 0, .slice none 0 0] := by
    rw [← hW, show w.heap.size + 1 = (w.alloc (.cells (noteCells S E B V cs ce cb cv n) 26)).heap.size from by simp]
    exact Blk.new _ _ _
  obtain ⟨c0, c1, c2, c3⟩ := note_cells hB0
  have g0 := c0
  have g1 := c1
  have g2 := c2
  have g3 := c3
  rw [← hW] at g0 g1 g2 g3
  have HN := Lib.hid (h1.later hb0)
  have HI := Lib.hid (h2.later hb0)
  have HB1 := Lib.hid hB1
  have HB0 := Lib.hid hB0
  have N0 := Lib.hid (nformed_any S E B V cs ce cb cv n W (h1.later hb0))
  have hfa := (Nt.wsOk_iff n).1
  have HT := Lib.hid (show Nt.through n it = if Nt.fmd n = true then (⟨n.s, n.e, Sp.ofL (Nt.blurTo n it n.ws.length), Nt.keptTo n.ws it n.ws.length⟩, 0) else (noNote, 1) from rfl)
  have HF := Lib.hid (show Nt.fmd n = true → Nt.wsTo n n.ws.length from fun h => hfa (by unfold Nt.fmd at h; simp only [Bool.and_eq_true] at h; exact h.2.2.2.2))
  obtain ⟨x0, hx0⟩ : ∃ x, Nt.fmd n = x := ⟨_, rfl⟩
  rw [hx0] at N0 HT HF
  have HW := Lib.hid hW
  clear hW hB0 hB1 h1 h2 hx0 hfa
  cases x0 with
  | false =>
    have HT2 := Lib.hid (HT.out.trans (if_neg (by simp)))
    go_enter Try.func26, Try.ntmps26
    go_wp2_with fail
    rw [HW.out]
    refine N0.out.mono ?_
    rintro e w1 ⟨rfl, b1⟩
    have hq := HB1.out.later b1
    obtain ⟨⟨z0, z1, z2, z3⟩, r0, r1, r2, r3⟩ := nt_cells hq
    have HQ := Lib.hid hq
    clear hq
    go_wp2
    refine bodyPost_ret (results_cell_tmp (p := 4) (t1 := 5) (ty := 26) rfl _ _ (w.heap.size + 1) 26 (noteCells none none none none 0 0 0 0 noNote) _ rfl (nt_puts HQ.out none none none none 0 0 0 0 noNote) Try.underlying26 rfl infoNt) rfl ?_
    rw [HT2.out]
    exact ⟨_, _, _, _, _, _, _, _, rfl, noNote_at _, below_puts (below_on hb0 b1) (by omega) _ _ _ _⟩
  | true =>
  have HT2 := Lib.hid (HT.out.trans (if_pos rfl))
  have HWS := Lib.hid (HF.out rfl)
  have NS := Lib.hid (fun wx (hb : Below W.heap.size W wx) => set_any I ci it wx (HI.out.later hb).len (HI.out.later hb).stamps)
  have NB := Lib.hid (fun wx (hb : Below W.heap.size W wx) => set_any B cb n.b wx (HN.out.hb.later hb).len (HN.out.hb.later hb).stamps)
  obtain ⟨inI, hinI⟩ : ∃ f, Sp.inL it = f := ⟨_, rfl⟩
  obtain ⟨inB, hinB⟩ : ∃ f, Sp.inL n.b = f := ⟨_, rfl⟩
  rw [hinI] at NS
  rw [hinB] at NB
  have HII := Lib.hid hinI
  have HIB := Lib.hid hinB
  clear hinI hinB HT HF
  go_enter Try.func26, Try.ntmps26
  go_wp2_with fail
  rw [HW.out]
  refine N0.out.mono ?_
  rintro e w1 ⟨rfl, b1⟩
  have d2 := cell_later b1 c2
  clear g0 g1 g2 g3
  go_wp2_with fail
  refine (NS.out _ b1).mono ?_
  rintro e w2 ⟨rfl, b2⟩
  have bb2 := below_on b1 b2
  have hS0 := Blk.new w2 69 (Sp.arr fun _ => false)
  rw [← marks_zero] at hS0
  have hS1 := hS0.row (Sp.arr inI)
  have bs := below_setRow (below_new (Below.refl w2.heap.size w2) (.cells Try.zeroCells69 69)) (Nat.le_refl _) (Sp.arr inI)
  have e2 := cell_later (below_on bb2 bs) c2
  go_wp2_with (refine wpList_store_row rfl 69 _ _ rfl w2.heap.size (Sp.arr inI) rfl rfl 69 Try.zeroCells69 hS0 (by rw [Sp.arr_size]; exact info256) (by rw [marks_zero, Sp.arr_size, Sp.arr_size]) (one_marks _) ?_)
  refine (NB.out _ (below_on bb2 bs)).mono ?_
  rintro e w3 ⟨rfl, b3⟩
  have bb3 := below_on (below_on bb2 bs) b3
  have hSI := hS1.later b3
  have hT0 := Blk.new w3 69 (Sp.arr fun _ => false)
  rw [← marks_zero] at hT0
  have hT1 := hT0.row (Sp.arr inB)
  have bt := below_setRow (below_new (Below.refl w3.heap.size w3) (.cells Try.zeroCells69 69)) (Nat.le_refl _) (Sp.arr inB)
  have HSI := Lib.hid (hSI.later bt)
  have HSB := Lib.hid hT1
  have bb4 := below_on bb3 bt
  have hz2 : w2.heap.size < w3.heap.size := hSI.lt
  have hz1 := bb2.size
  have hz0w := hb0.size
  clear hS0 hS1 e2 d2 hSI hT1 NS NB
  go_wp2_with (refine wpList_store_row rfl 69 _ _ rfl w3.heap.size (Sp.arr inB) rfl rfl 69 Try.zeroCells69 hT0 (by rw [Sp.arr_size]; exact info256) (by rw [marks_zero, Sp.arr_size, Sp.arr_size]) (one_marks _) ?_)
  obtain ⟨w4, hw4⟩ : ∃ w4, (w3.alloc (.cells Try.zeroCells69 69)).setRow w3.heap.size (Sp.arr inB) = w4 := ⟨_, rfl⟩
  rw [hw4] at HSI HSB bb4 bt ⊢
  clear hw4 hT0
  have p0 := cell_later bb4 c0
  have p1 := cell_later bb4 c1
  have hn4 := HN.out.later bb4
  have NC := Lib.hid (fun wx (hb : Below w4.heap.size w4 wx) => (rcopy_any S cs n.s wx hls (hn4.hs.later hb).2.2.1 (hn4.hs.later hb).2.2.2).mono fun _ _ hg => hg.one)
  have NE := Lib.hid (fun wx (hb : Below w4.heap.size w4 wx) => (rcopy_any E ce n.e wx hle (hn4.he.later hb).2.2.1 (hn4.he.later hb).2.2.2).mono fun _ _ hg => hg.one)
  clear hn4
  refine wp_region_facts 8 (by kernel_rfl) (by kernel_rfl)
    (fun v => { tmps := #[.agg (noteCells S E B V cs ce cb cv n), .slice I it.length ci, .pointer (some ⟨w.heap.size, 0, none⟩), undef, .pointer (some ⟨w.heap.size + 1, 0, none⟩), .int .i64 0, .pointer (some ⟨w2.heap.size, 0, none⟩), .pointer (some ⟨w3.heap.size, 0, none⟩), v 7, undef, .agg #[.slice S n.s.length cs, .slice E n.e.length ce, .slice B n.b.length cb, .slice V n.ws.length cv], .bool true, .bool false, undef, .slice I it.length ci, .agg (Sp.arr inI), .pointer (some ⟨w.heap.size, 2, none⟩), .slice B n.b.length cb, .agg (Sp.arr inB), v 0, v 1, v 2, v 3, v 4, v 5, v 6, undef, undef, undef, undef, undef, undef, undef, undef, undef, undef, undef, undef, undef, undef, undef, undef, undef, undef, undef, undef, undef, undef, undef, undef, undef, undef, undef, undef, undef, undef, undef, undef, undef, undef, undef, undef], defers := [] }) (fun _ => undef)
    (fun i x wx => match i with
      | 0 => x = .pointer (some ⟨w.heap.size, 0, none⟩)
      | 1 => x = .slice S n.s.length cs
      | 2 => ∃ A' c', x = .slice A' n.s.length c' ∧ OneL wx A' c' n.s
      | 3 => x = .pointer (some ⟨w.heap.size, 1, none⟩)
      | 4 => x = .slice E n.e.length ce
      | 5 => ∃ A' c', x = .slice A' n.e.length c' ∧ OneL wx A' c' n.e
      | 6 => ∃ A' c' A'' c'', x = .agg #[.slice A' n.s.length c', .slice A'' n.e.length c'', .slice none 0 0, .slice none 0 0] ∧ OneL wx A' c' n.s ∧ OneL wx A'' c'' n.e
      | 7 => ∃ g, x = .pointer (some ⟨g, 0, none⟩) ∧ Blk wx g 26 #[.slice none 0 0, .slice none 0 0, .slice none 0 0, .slice none 0 0] ∧ w4.heap.size ≤ g
      | _ => True)
    (fun w1 w2 => Below w1.heap.size w1 w2) (fun h1 h2 => below_on h1 h2) (fun _ => Below.refl _ _) (Below.drew (Below.refl _ _)) ?stab ?step ?done
  case stab =>
    rintro i x w1 w2 h hb
    match i, h with
    | 0, h => exact h
    | 1, h => exact h
    | 2, h => obtain ⟨A, c, h1, h2⟩ := h; exact ⟨A, c, h1, h2.later hb⟩
    | 3, h => exact h
    | 4, h => exact h
    | 5, h => obtain ⟨A, c, h1, h2⟩ := h; exact ⟨A, c, h1, h2.later hb⟩
    | 6, h => obtain ⟨A, c, A2, c2, h1, h2, h3⟩ := h; exact ⟨A, c, A2, c2, h1, h2.later hb, h3.later hb⟩
    | 7, h => obtain ⟨g, h1, h2, h3⟩ := h; exact ⟨g, h1, h2.later hb, h3⟩
    | i + 8, _ => trivial
  case step =>
    intro i hi v w' hb hd
    match i, hi with
    | 0, _ =>
      refine wpOp_one rfl ?_
      clear hd
      go_wp2
      exact ⟨_, by simp [upd]; done, Below.refl _ _, rfl⟩
    | 1, _ =>
      have h0 : v 0 = _ := hd 0 (List.elem_iff.1 (by kernel_rfl))
      refine wpOp_one rfl ?_
      clear hd
      rw [h0]
      have q0 := cell_later hb p0
      go_wp2
      exact ⟨_, by simp [upd, h0]; done, Below.refl _ _, rfl⟩
    | 2, _ =>
      have h1 : v 1 = _ := hd 1 (List.elem_iff.1 (by kernel_rfl))
      refine wpOp_one rfl ?_
      clear hd
      rw [h1]
      go_wp2_with fail
      refine (NC.out _ hb).mono ?_
      rintro e w'' hg
      obtain ⟨A, c, rfl, ho, b⟩ := hg
      go_wp2
      exact ⟨_, by simp [upd, h1]; done, b, A, c, rfl, ho⟩
    | 3, _ =>
      refine wpOp_one rfl ?_
      clear hd
      go_wp2
      exact ⟨_, by simp [upd]; done, Below.refl _ _, rfl⟩
    | 4, _ =>
      have h3 : v 3 = _ := hd 3 (List.elem_iff.1 (by kernel_rfl))
      refine wpOp_one rfl ?_
      clear hd
      rw [h3]
      have q0 := cell_later hb p1
      go_wp2
      exact ⟨_, by simp [upd, h3]; done, Below.refl _ _, rfl⟩
    | 5, _ =>
      have h4 : v 4 = _ := hd 4 (List.elem_iff.1 (by kernel_rfl))
      refine wpOp_one rfl ?_
      clear hd
      rw [h4]
      go_wp2_with fail
      refine (NE.out _ hb).mono ?_
      rintro e w'' hg
      obtain ⟨A, c, rfl, ho, b⟩ := hg
      go_wp2
      exact ⟨_, by simp [upd, h4]; done, b, A, c, rfl, ho⟩
    | 6, _ =>
      obtain ⟨A2, k2, h2, o2⟩ := hd 2 (List.elem_iff.1 (by kernel_rfl))
      obtain ⟨A5, k5, h5, o5⟩ := hd 5 (List.elem_iff.1 (by kernel_rfl))
      refine wpOp_one rfl ?_
      clear hd
      rw [h2, h5]
      go_wp2
      exact ⟨_, by simp [upd, h2, h5]; done, Below.refl _ _, A2, k2, A5, k5, rfl, o2, o5⟩
    | 7, _ =>
      refine wpOp_one rfl ?_
      clear hd
      have hz := hb.size
      go_wp2
      exact ⟨_, by simp [upd]; done, below_new (Below.refl _ _) _, w'.heap.size, rfl, Blk.new _ _ _, by omega⟩
  case done =>
    intro v w' hb hf
    obtain ⟨A2, k2, A5, k5, h6, o2, o5⟩ := hf 6 (by omega)
    obtain ⟨g8, h7, q8, hg8⟩ := hf 7 (by omega)
    have O2 := Lib.hid o2
    have O5 := Lib.hid o5
    clear o2 o5 hf
    simp only [List.drop_succ_cons, List.drop_zero]
    rw [h6, h7]
    obtain ⟨⟨z0, z1, z2, z3⟩, r0, r1, r2, r3⟩ := nt_cells q8
    go_wp2_with fail
    have B1 : Blk (w'.setCell ⟨g8, 0, none⟩ (.slice A2 n.s.length k2)) g8 26 #[.slice A2 n.s.length k2, .slice none 0 0, .slice none 0 0, .slice none 0 0] := q8.put 0 _
    have B2 : Blk ((w'.setCell ⟨g8, 0, none⟩ (.slice A2 n.s.length k2)).setCell ⟨g8, 1, none⟩ (.slice A5 n.e.length k5)) g8 26 #[.slice A2 n.s.length k2, .slice A5 n.e.length k5, .slice none 0 0, .slice none 0 0] := B1.put 1 _
    have B4 : Blk ((((w'.setCell ⟨g8, 0, none⟩ (.slice A2 n.s.length k2)).setCell ⟨g8, 1, none⟩ (.slice A5 n.e.length k5)).setCell ⟨g8, 2, none⟩ (.slice none 0 0)).setCell ⟨g8, 3, none⟩ (.slice none 0 0)) g8 26 #[.slice A2 n.s.length k2, .slice A5 n.e.length k5, .slice none 0 0, .slice none 0 0] := (B2.put 2 _).put 3 _
    have b5 : Below w4.heap.size w4 ((((w'.setCell ⟨g8, 0, none⟩ (.slice A2 n.s.length k2)).setCell ⟨g8, 1, none⟩ (.slice A5 n.e.length k5)).setCell ⟨g8, 2, none⟩ (.slice none 0 0)).setCell ⟨g8, 3, none⟩ (.slice none 0 0)) := below_puts hb hg8 _ _ _ _
    have N5 := (NoteAt.mk (n := ⟨n.s, n.e, [], []⟩) O2.out O5.out OneL.nil OneW.nil : NoteAt w' A2 A5 none none k2 k5 0 0 ⟨n.s, n.e, [], []⟩).puts q8 ⟨rfl, rfl, rfl, rfl⟩ (.slice A2 n.s.length k2) (.slice A5 n.e.length k5) (.slice none 0 0) (.slice none 0 0) ⟨rfl, rfl, rfl⟩
    have hg8lt := q8.lt
    obtain ⟨w5, hw5⟩ : ∃ w5, (((w'.setCell ⟨g8, 0, none⟩ (.slice A2 n.s.length k2)).setCell ⟨g8, 1, none⟩ (.slice A5 n.e.length k5)).setCell ⟨g8, 2, none⟩ (.slice none 0 0)).setCell ⟨g8, 3, none⟩ (.slice none 0 0) = w5 := ⟨_, rfl⟩
    have hsz5 : w'.heap.size = w5.heap.size := by rw [← hw5]; simp
    rw [hw5] at B4 b5 N5 ⊢
    clear hw5 B1 B2 q8 h6 h7 z0 z1 z2 z3 r0 r1 r2 r3 O2 O5
    have hz4 := bb4.size
    have bb5 := below_on bb4 b5
    have hSBlt := HSB.out.lt
    have HX5 := Lib.hid (HSI.out.later b5)
    have HM5 := Lib.hid (HSB.out.later b5)
    have HR5 := Lib.hid (HB1.out.later bb5)
    have HB05 := Lib.hid ((show Blk W w.heap.size 26 (noteCells S E B V cs ce cb cv n) from HB0.out).later bb5)
    have HV5 := Lib.hid (HN.out.hv.later bb5)
    have HN5 := Lib.hid N5
    have HB4 := Lib.hid B4
    have hWlt := HR5.out.lt
    have hg8w : w3.heap.size < g8 := by omega
    have hwW : w.heap.size + 1 < W.heap.size := HB1.out.lt
    clear N5 B4 HSI HSB HN HI NC NE c0 c1 c2 c3 p0 p1
    go_loopw [9] (fun s9 wr => ∃ (k : Nat) (v : Value), k ≤ n.ws.length ∧ s9 = .int .i64 (k : Int) ∧ Blk wr g8 26 #[.slice A2 n.s.length k2, .slice A5 n.e.length k5, .slice none 0 0, v] ∧ wr.ownsRow w5.heap.size 35 4 v (Nt.keptTo n.ws it k).length (Nt.wrCells (Nt.keptTo n.ws it k)) ∧ Blk wr w3.heap.size 69 (Sp.arr (Nt.blurTo n it k)) ∧ But w3.heap.size g8 w5 wr ∧ Below w.heap.size w wr) (fun s9 _ => n.ws.length - (intOf s9).toNat)
    case atStart =>
      refine ⟨0, .slice none 0 0, Nat.zero_le _, rfl, HB4.out, ⟨rfl, .inl ⟨rfl, rfl⟩⟩, ?_, But.refl _ _ _, below_on hb0 bb5⟩
      refine HM5.out.marks_same (fun i _ => ?_)
      rw [← HIB.out]
      show _ = (Sp.inL n.b i || false)
      rw [Bool.or_false]
    case round =>
      obtain ⟨k, vk, hk, rfl, hG, hown, hM, hbut, hbw⟩ := hrel
      have x3 : wr.cell? ⟨w.heap.size, 3, none⟩ = some (.slice V n.ws.length cv) := (hbut.blk HB05.out (by omega) (by omega)).cell rfl
      by_cases hlt : k < n.ws.length
      · have hne : n.ws ≠ [] := fun e => by rw [e] at hlt; simp at hlt
        have hv := HV5.out.but hbut HM5.out (marks_noInt _) HB4.out (by intro x hx; simp at hx; rcases hx with rfl | rfl | rfl | rfl <;> rfl)
        obtain ⟨b, off, hA, hcA⟩ := hv.at hne
        subst hA
        obtain ⟨e0, e1, e2, e3⟩ := hcA k hlt
        obtain ⟨_, ⟨ho0, ho1⟩, _, _⟩ := HWS.out k hlt
        have hky := @Nt.kept_yes n.ws it k hlt
        have hkn := @Nt.kept_no n.ws it k hlt
        have hbs := Nt.blur_step (n := n) (it := it) hlt
        have hkl := Nt.kept_len n.ws it k
        have hob : (n.ws.getD k Nt.zeroW).2.2.1 = Nt.obj n.ws k := rfl
        obtain ⟨m, hm⟩ : ∃ m : Nat, Nt.obj n.ws k = (m : Int) := ⟨(Nt.obj n.ws k).toNat, by omega⟩
        rw [hob, hm] at e2
        rw [hm] at ho0 ho1 hky hkn hbs
        have hm256 : m < 256 := by omega
        have hmt : ((m : Nat) : Int).toNat = m := rfl
        rw [hmt, HII.out] at hky hkn
        rw [HII.out] at hbs
        have xI := (hbut.blk HX5.out (by omega) (by omega)).marks_cell m hm256
        have xM := hM.marks_cell m hm256
        have xMf := hM.free m
        have hi0 : (0 : Int) ≤ (k : Int) := by omega
        have hi1 : (k : Int) < (n.ws.length : Int) := by omega
        have hj1 : (m : Int) < 256 := by omega
        obtain ⟨y, hy⟩ : ∃ y, n.ws.getD k Nt.zeroW = y := ⟨_, rfl⟩
        rw [hy] at e0 e1 e3 hky hob
        have hyo : y.2.2.1 = (m : Int) := hob.trans hm
        clear hcA hv hob hm
        cases hin : inI m
        · rw [hin] at xI hkn
          have HK := Lib.hid (hkn rfl)
          have HMN := Lib.hid ((hM.marks_put m hm256 true).marks_same (f' := Nt.blurTo n it (k + 1)) (fun i _ => by
            rw [hbs i]
            by_cases e : i = m
            · subst e; rw [if_pos rfl, hin, decide_eq_true rfl]; simp
            · rw [if_neg e, decide_eq_false (by omega)]; simp))
          have HGN := Lib.hid (hG.far (p := ⟨w3.heap.size, m, none⟩) (by show g8 ≠ w3.heap.size; omega) (.bool true))
          have HON := Lib.hid (own_stays (w' := wr.setCell ⟨w3.heap.size, m, none⟩ (.bool true)) hown (fun r hr => Below.heap_setCell wr ⟨w3.heap.size, m, none⟩ _ r (by have := own_ge hown r hr; show r ≠ w3.heap.size; omega)))
          have hb2 := hbut.setA m (.bool true)
          have hbw2 := hbw.setCell (p := ⟨w3.heap.size, m, none⟩) (by show w.heap.size ≤ w3.heap.size; omega) (.bool true)
          clear hin hky hkn hbs hG hown hM
          go_wp2_with fail
          go_roundw
          case rel => exact ⟨k + 1, vk, by omega, by go_num, HGN.out, by rw [HK.out]; exact HON.out, HMN.out, hb2, hbw2⟩
          case measure => simp [intOf]; omega
        · rw [hin] at xI hky
          have HK := Lib.hid (hky rfl)
          have HMN := Lib.hid (hM.marks_same (f' := Nt.blurTo n it (k + 1)) (fun i _ => by
            rw [hbs i]
            by_cases e : i = m
            · subst e; rw [hin]; simp
            · rw [decide_eq_false (by omega)]; simp))
          obtain ⟨K, hKK⟩ : ∃ K, Nt.keptTo n.ws it k = K := ⟨_, rfl⟩
          rw [hKK] at hown hkl HK
          have z3 := hG.cell (i := 3) rfl
          have HG := Lib.hid hG
          have HOW := Lib.hid hown
          have HBT := Lib.hid hbut
          clear hin hky hkn hbs hG hM hKK hbut hown
          go_wp2_with fail
          refine wp_region_facts 8 (by kernel_rfl) (by kernel_rfl)
            (fun vv => { tmps := #[.agg (noteCells S E B (some ⟨b, off, none⟩) cs ce cb cv n), .slice I it.length ci, .pointer (some ⟨w.heap.size, 0, none⟩), undef, .pointer (some ⟨w.heap.size + 1, 0, none⟩), .int .i64 0, .pointer (some ⟨w2.heap.size, 0, none⟩), .pointer (some ⟨w3.heap.size, 0, none⟩), .pointer (some ⟨g8, 0, none⟩), .int .i64 (k : Int), .agg #[.slice S n.s.length cs, .slice E n.e.length ce, .slice B n.b.length cb, .slice (some ⟨b, off, none⟩) n.ws.length cv], .bool true, .bool false, undef, .slice I it.length ci, .agg (Sp.arr inI), .pointer (some ⟨w.heap.size, 2, none⟩), .slice B n.b.length cb, .agg (Sp.arr inB), v 0, v 1, v 2, v 3, v 4, v 5, .agg #[.slice A2 n.s.length k2, .slice A5 n.e.length k5, .slice none 0 0, .slice none 0 0], .int .i64 (k : Int), .pointer (some ⟨w.heap.size, 3, none⟩), .slice (some ⟨b, off, none⟩) n.ws.length cv, .int .i64 (n.ws.length : Int), .bool true, u31, u32, .pointer (some ⟨w.heap.size, 3, none⟩), .slice (some ⟨b, off, none⟩) n.ws.length cv, .int .i64 (k : Int), .pointer (some ⟨b, off + k * 4, none⟩), .pointer (some ⟨b, off + k * 4 + 2, none⟩), .int .i64 (m : Int), .pointer (some ⟨w2.heap.size, m, none⟩), .bool true, vv 0, vv 1, vv 2, vv 3, vv 4, vv 5, vv 6, vv 7, u49, u50, u51, u52, u53, u54, u55, u56, u57, undef, undef, undef, undef], defers := [] }) (fun i => [u41, u42, u43, u44, u45, u46, u47, u48].getD i undef)
            (fun i x wx => match i with
              | 0 => x = .pointer (some ⟨g8, 3, none⟩)
              | 1 => x = vk
              | 2 => x = .pointer (some ⟨w.heap.size, 3, none⟩)
              | 3 => x = .slice (some ⟨b, off, none⟩) n.ws.length cv
              | 4 => x = .int .i64 (k : Int)
              | 5 => x = .pointer (some ⟨b, off + k * 4, none⟩)
              | 6 => x = .agg #[.int .i64 y.1, .int .i64 y.2.1, .int .i64 (m : Int), .bool y.2.2.2]
              | 7 => ∃ g, x = .slice (some ⟨g, 0, none⟩) 1 1 ∧ Blk wx g 35 #[.int .i64 y.1, .int .i64 y.2.1, .int .i64 (m : Int), .bool y.2.2.2] ∧ wr.heap.size ≤ g
              | _ => True)
            (fun w1 w2 => Below w1.heap.size w1 w2) (fun h1 h2 => below_on h1 h2) (fun _ => Below.refl _ _) (Below.drew (Below.refl _ _)) ?stab ?step ?done
          case stab =>
            rintro i x w1 w2 h hb
            match i, h with
            | 0, h => exact h
            | 1, h => exact h
            | 2, h => exact h
            | 3, h => exact h
            | 4, h => exact h
            | 5, h => exact h
            | 6, h => exact h
            | 7, h => obtain ⟨g, h1, h2, h3⟩ := h; exact ⟨g, h1, h2.later hb, h3⟩
            | i + 8, _ => trivial
          case step =>
            intro i hi v w' hb hd
            match i, hi with
            | 0, _ =>
              refine wpOp_one rfl ?_
              clear hd
              go_wp2
              exact ⟨_, by simp [upd]; done, Below.refl _ _, rfl⟩
            | 1, _ =>
              have h0 : v 0 = _ := hd 0 (List.elem_iff.1 (by kernel_rfl))
              refine wpOp_one rfl ?_
              clear hd
              rw [h0]
              have q0 := cell_later hb z3
              go_wp2
              exact ⟨_, by simp [upd, h0]; done, Below.refl _ _, rfl⟩
            | 2, _ =>
              refine wpOp_one rfl ?_
              clear hd
              go_wp2
              exact ⟨_, by simp [upd]; done, Below.refl _ _, rfl⟩
            | 3, _ =>
              have h2 : v 2 = _ := hd 2 (List.elem_iff.1 (by kernel_rfl))
              refine wpOp_one rfl ?_
              clear hd
              rw [h2]
              have q0 := cell_later hb x3
              go_wp2
              exact ⟨_, by simp [upd, h2]; done, Below.refl _ _, rfl⟩
            | 4, _ =>
              refine wpOp_one rfl ?_
              clear hd
              go_wp2
              exact ⟨_, by simp [upd]; done, Below.refl _ _, rfl⟩
            | 5, _ =>
              have h3 : v 3 = _ := hd 3 (List.elem_iff.1 (by kernel_rfl))
              have h4 : v 4 = _ := hd 4 (List.elem_iff.1 (by kernel_rfl))
              refine wpOp_one rfl ?_
              clear hd
              rw [h3, h4]
              go_wp2
              exact ⟨_, by simp [upd, h3, h4]; done, Below.refl _ _, rfl⟩
            | 6, _ =>
              have h5 : v 5 = _ := hd 5 (List.elem_iff.1 (by kernel_rfl))
              refine wpOp_one rfl ?_
              clear hd
              rw [h5]
              have q0 := cell_later hb e0
              have q1 := cell_later hb e1
              have q2 := cell_later hb e2
              have q3 := cell_later hb e3
              go_wp2
              exact ⟨_, by simp [upd, h5]; done, Below.refl _ _, rfl⟩
            | 7, _ =>
              have h6 : v 6 = _ := hd 6 (List.elem_iff.1 (by kernel_rfl))
              refine wpOp_one rfl ?_
              clear hd
              rw [h6]
              have hz := hb.size
              go_wp2
              exact ⟨_, by simp [upd, h6]; done, below_new (Below.refl _ _) _, w'.heap.size, rfl, Blk.new _ _ _, by omega⟩
          case done =>
            intro vv w' hb hf
            obtain ⟨g7, h7, B7, l7⟩ := hf 7 (by omega)
            have h1 : vv 1 = _ := hf 1 (by omega)
            clear hf
            simp only [List.drop_succ_cons, List.drop_zero]
            rw [h1, h7]
            have hown' := own_later HOW.out hb
            have hy1 : Lies w' (some ⟨g7, 0, none⟩) (Nt.wrCells [y]) := fun _ => ⟨g7, 0, rfl, fun j u hu => by
              rw [Nat.zero_add]
              refine B7.cell ?_
              rw [← hyo]
              simpa [Nt.wrCells, Nt.wrCell] using hu⟩
            have hbutw := HBT.out.below hb
            have hGw := HG.out.later hb
            have hMw := HMN.out.later hb
            have hbw' := below_on hbw hb
            have hszw := hbutw.1
            go_wp2_with (at_builtin; refine Go.Proofs.Ytoaclofobfaflaa.wpList_append_lies _ rfl _ _ 24 rfl w5.heap.size 35 i0 (.agg #[.int .i64 0, .int .i64 0, .int .i64 0, .bool false]) 4 32 Try.underlying24 hI hZ0 hZ1 hZ2 rfl (by decide) _ K.length (Nt.wrCells K) rfl hown' (some ⟨g7, 0, none⟩) 1 1 (fun h => by cases h) (Nt.wrCells [y]) rfl rfl hy1 (Nt.wrCells_one _) ?h63 ?hbytes hszw ?_)
            case h63 => have q1 := HV5.out.1; have q2 := HV5.out.2.1; omega
            case hbytes => omega
            intro v' w6 hown6 hg6 _
            have hs6 := hg6.size
            have G6 : Blk w6 g8 26 #[.slice A2 n.s.length k2, .slice A5 n.e.length k5, .slice none 0 0, vk] := (hg6.block g8 hGw.lt (fun e => by have := own_ge hown' _ e.symm; omega)).trans hGw
            have M6 : Blk w6 w3.heap.size 69 (Sp.arr (Nt.blurTo n it (k + 1))) := (hg6.block _ hMw.lt (fun e => by have := own_ge hown' _ e.symm; omega)).trans hMw
            have but6 := hbutw.grown hg6 hs6 (fun r e => own_ge hown' r e)
            have bw6 : Below w.heap.size w w6 := hbw'.grown hg6 (by omega) (fun r e => by have := own_ge hown' r e; omega)
            rw [← Nt.wrCells_append, show K.length + 1 = (K ++ [y]).length from by simp, ← HK.out] at hown6
            have z6 := G6.cell (i := 3) rfl
            have r6 := G6.free 3
            have G7 : ∀ u, Blk (w6.setCell ⟨g8, 3, none⟩ u) g8 26 #[.slice A2 n.s.length k2, .slice A5 n.e.length k5, .slice none 0 0, u] := fun u => G6.put 3 u
            have M7 : ∀ u, Blk (w6.setCell ⟨g8, 3, none⟩ u) w3.heap.size 69 (Sp.arr (Nt.blurTo n it (k + 1))) := fun u => M6.far (p := ⟨g8, 3, none⟩) (by show w3.heap.size ≠ g8; omega) u
            have O7 : ∀ u, (w6.setCell ⟨g8, 3, none⟩ u).ownsRow w5.heap.size 35 4 v' (Nt.keptTo n.ws it (k + 1)).length (Nt.wrCells (Nt.keptTo n.ws it (k + 1))) := fun u => own_stays hown6 (fun r hr => Below.heap_setCell w6 ⟨g8, 3, none⟩ u r (by have := own_ge hown6 r hr; show r ≠ g8; omega))
            have HQ := Lib.hid (And.intro G7 (And.intro M7 O7))
            obtain ⟨gv, capv, rfl⟩ := own_len hown6 (by rw [HK.out]; simp)
            have b7 := fun u => but6.setB 3 u
            have c7 := fun u => bw6.setCell (p := ⟨g8, 3, none⟩) (by show w.heap.size ≤ g8; omega) u
            have HQ2 := Lib.hid (And.intro b7 c7)
            clear G6 M6 hown6 hg6 hown' hy1 hGw hMw G7 M7 O7 b7 c7 hbutw
            go_wp2_with fail
            go_roundw
            case rel => exact ⟨k + 1, _, by omega, by go_num, HQ.out.1 _, HQ.out.2.2 _, HQ.out.2.1 _, HQ2.out.1 _, HQ2.out.2 _⟩
            case measure => simp [intOf]; omega
      · have hkl : k = n.ws.length := by omega
        subst hkl
        have z2 := hG.cell (i := 2) rfl
        have r2 := hG.free 2
        have HG := Lib.hid hG
        have HM := Lib.hid hM
        have HOW := Lib.hid hown
        have HBT := Lib.hid hbut
        clear hG hM hown hbut
        obtain ⟨A7, k7, hvk, hO7⟩ := OneW.of_own HOW.out
        subst hvk
        have hsl : ∀ x ∈ (#[.slice A2 n.s.length k2, .slice A5 n.e.length k5, .slice none 0 0, .slice none 0 0] : Array Value).toList, isInt x = false := by intro x hx; simp at hx; rcases hx with rfl | rfl | rfl | rfl <;> rfl
        have L2 := HN5.out.hs.but HBT.out HM5.out (marks_noInt _) HB4.out hsl
        have L5 := HN5.out.he.but HBT.out HM5.out (marks_noInt _) HB4.out hsl
        have hRw := HBT.out.blk HR5.out (by omega) (by omega)
        have HRW := Lib.hid hRw
        have HL := Lib.hid (And.intro L2 (And.intro L5 hO7))
        clear L2 L5 hO7 hRw HOW
        go_wp2_with (refine wpList_load_row rfl 69 _ rfl w3.heap.size rfl 69 _ (0, 0) _ HM.out Try.underlying69 rfl (by rw [Sp.arr_size]; exact info256) ?_)
        refine (ofS_any _ _).mono ?_
        rintro e w6 hg
        obtain ⟨A6, k6, rfl, o6, b6⟩ := hg.one
        have G6 := HG.out.later b6
        have R6 := HRW.out.later b6
        have N6 : NoteAt w6 A2 A5 A6 A7 k2 k5 k6 k7 (Nt.through n it).1 := by
          rw [HT2.out]
          exact ⟨HL.out.1.later b6, HL.out.2.1.later b6, o6, HL.out.2.2.later b6⟩
        have hTn : (Nt.through n it).1 = ⟨n.s, n.e, Sp.ofL (Nt.blurTo n it n.ws.length), Nt.keptTo n.ws it n.ws.length⟩ := by rw [HT2.out]
        have hTe : (Nt.through n it).2 = 0 := by rw [HT2.out]
        obtain ⟨M, hM⟩ : ∃ M, (Nt.through n it).1 = M := ⟨_, rfl⟩
        obtain ⟨ME, hME⟩ : ∃ ME, (Nt.through n it).2 = ME := ⟨_, rfl⟩
        rw [hM] at N6 hTn ⊢
        rw [hME] at hTe ⊢
        obtain ⟨bl, hbl⟩ : ∃ bl, Sp.ofL (Nt.blurTo n it n.ws.length) = bl := ⟨_, rfl⟩
        obtain ⟨kw, hkw⟩ : ∃ kw, Nt.keptTo n.ws it n.ws.length = kw := ⟨_, rfl⟩
        rw [hkw] at G6
        rw [hbl, hkw] at hTn
        rw [hbl]
        have HTB := Lib.hid (show Nt.through n it = (⟨n.s, n.e, bl, kw⟩, 0) from by rw [HT2.out, hbl, hkw])
        subst hTn hTe
        have z2' := G6.cell (i := 2) rfl
        have r2' := G6.free 2
        have G7 := G6.put 2 (.slice A6 bl.length k6)
        have G7' : Blk (w6.setCell ⟨g8, 2, none⟩ (.slice A6 bl.length k6)) g8 26 (noteCells A2 A5 A6 A7 k2 k5 k6 k7 ⟨n.s, n.e, bl, kw⟩) := G7
        have N7 := N6.slPut G6 (by intro x hx; simp at hx; rcases hx with rfl | rfl | rfl | rfl <;> rfl) 2 (.slice A6 bl.length k6)
        have R7 := R6.far (p := ⟨g8, 2, none⟩) (by show w.heap.size + 1 ≠ g8; omega) (.slice A6 bl.length k6)
        have b7 := (below_on hbw b6).setCell (p := ⟨g8, 2, none⟩) (by show w.heap.size ≤ g8; omega) (.slice A6 bl.length k6)
        obtain ⟨y0, y1, y2, y3⟩ := note_cells G7'
        obtain ⟨⟨q0, q1, q2, q3⟩, s0, s1, s2, s3⟩ := nt_cells R7
        have N8 := N7.puts R7 ⟨rfl, rfl, rfl, rfl⟩ (.slice A2 n.s.length k2) (.slice A5 n.e.length k5) (.slice A6 bl.length k6) (.slice A7 kw.length k7) ⟨rfl, rfl, rfl⟩
        have HN8 := Lib.hid N8
        have HR7 := Lib.hid R7
        have HB7 := Lib.hid b7
        clear G6 G7 G7' N6 N7 N8 R6 R7 b7 hbl hkw hM hME
        go_wp2
        refine bodyPost_ret (results_cell_tmp (p := 4) (t1 := 5) (ty := 26) rfl _ _ (w.heap.size + 1) 26 (noteCells A2 A5 A6 A7 k2 k5 k6 k7 ⟨n.s, n.e, bl, kw⟩) _ rfl (nt_puts HR7.out A2 A5 A6 A7 k2 k5 k6 k7 ⟨n.s, n.e, bl, kw⟩) Try.underlying26 rfl infoNt) rfl ?_
        rw [HTB.out]
        exact ⟨_, _, _, _, _, _, _, _, rfl, HN8.out, below_puts HB7.out (by omega) _ _ _ _⟩

end Go.Proofs.Ytoaclofobfaflaa
namespace Go.Proofs.Ytoaclofobfaflaa
open Go.RowKit

theorem isNaN_any (a : Int) (w : World) : Calls Try.prog 99 #[.int .i64 a] w fun e w' => e = .returned (.bool false) ∧ w = w' := by
  go_enter Try.func99, Try.ntmps99
  go_wp2
  go_ret
  simp

theorem cmp_any (a b : Int) (w : World) : Calls Try.prog 88 #[.int .i64 a, .int .i64 b] w fun e w' => e = .returned (.int .i64 (St.cmpI a b)) ∧ w = w' := by
  rcases Int.lt_trichotomy a b with h | h | h
  · go_enter Try.func88, Try.ntmps88
    go_wp2_with (go_at_call 99; refine (isNaN_any _ _).mono ?_; rintro e w' ⟨rfl, rfl⟩)
    go_ret
    rw [St.cmpI_lt h]; exact ⟨rfl, rfl⟩
  · subst h
    go_enter Try.func88, Try.ntmps88
    go_wp2_with (go_at_call 99; refine (isNaN_any _ _).mono ?_; rintro e w' ⟨rfl, rfl⟩)
    go_ret
    rw [St.cmpI_eq rfl]; exact ⟨rfl, rfl⟩
  · have h2 : ¬ a < b := by omega
    go_enter Try.func88, Try.ntmps88
    go_wp2_with (go_at_call 99; refine (isNaN_any _ _).mono ?_; rintro e w' ⟨rfl, rfl⟩)
    go_ret
    rw [St.cmpI_gt h]; exact ⟨rfl, rfl⟩

/-- stamp.Compare. -/
theorem compare_any (c n c' n' : Int) (w : World) :
    Calls Try.prog 89 #[.agg #[.int .i64 c, .int .i64 n], .agg #[.int .i64 c', .int .i64 n']] w fun e w' => e = .returned (.int .i64 (St.cmpS c n c' n')) ∧ Below w.heap.size w w' := by
  rcases Int.lt_trichotomy c c' with h | h | h
  · have h1 : (St.cmpI c c' != 0) = true := by rw [St.cmpI_lt h]; rfl
    go_enter Try.func89, Try.ntmps89
    go_wp2_with (go_at_call 88; refine (cmp_any _ _ _).mono ?_; rintro e w' ⟨rfl, rfl⟩)
    go_ret
    rw [St.cmpI_lt h, St.cmpS_lt h]
    exact ⟨rfl, by repeat (first | exact Below.refl _ _ | exact Nat.le_refl _ | (apply Below.drew) | (refine Below.alloc ?_ ?_ _) | (refine Below.setCell ?_ ?_ _) | (simp; done) | (simp; omega))⟩
  · subst h
    have h1 : (St.cmpI c c != 0) = false := by rw [St.cmpI_eq rfl]; rfl
    go_enter Try.func89, Try.ntmps89
    go_wp2_with (go_at_call 88; refine (cmp_any _ _ _).mono ?_; rintro e w' ⟨rfl, rfl⟩)
    go_ret
    rw [St.cmpS_eq rfl]
    exact ⟨rfl, by repeat (first | exact Below.refl _ _ | exact Nat.le_refl _ | (apply Below.drew) | (refine Below.alloc ?_ ?_ _) | (refine Below.setCell ?_ ?_ _) | (simp; done) | (simp; omega))⟩
  · have h1 : (St.cmpI c c' != 0) = true := by rw [St.cmpI_gt h]; rfl
    go_enter Try.func89, Try.ntmps89
    go_wp2_with (go_at_call 88; refine (cmp_any _ _ _).mono ?_; rintro e w' ⟨rfl, rfl⟩)
    go_ret
    rw [St.cmpI_gt h, St.cmpS_gt h]
    exact ⟨rfl, by repeat (first | exact Below.refl _ _ | exact Nat.le_refl _ | (apply Below.drew) | (refine Below.alloc ?_ ?_ _) | (refine Below.setCell ?_ ?_ _) | (simp; done) | (simp; omega))⟩

theorem rcompare_lt (c n c' n' : Int) (w : World) (h : c < c') :
    Calls Try.prog 65 #[.agg #[.int .i64 c, .int .i64 n], .agg #[.int .i64 c', .int .i64 n']] w fun e w' => e = .returned (.int .i64 (St.cmpS c n c' n')) ∧ Below w.heap.size w w' := by
  have h0 : St.cmpS c n c' n' = -1 := by (first | rw [St.cmpS_lt (by omega)] | rw [St.cmpS_gt (by omega)] | (rw [St.cmpS_eq (by omega)]; first | exact St.cmpI_lt (by omega) | exact St.cmpI_eq (by omega) | exact St.cmpI_gt (by omega)))
  have H0 := Lib.hid h0; clear h0
  have hd : decide (c < c') = true := decide_eq_true h
  go_enter Try.func65, Try.ntmps65
  go_wp2
  go_ret
  rw [H0.out]
  exact ⟨rfl, by repeat (first | exact Below.refl _ _ | exact Nat.le_refl _ | (apply Below.drew) | (refine Below.alloc ?_ ?_ _) | (refine Below.setCell ?_ ?_ _) | (simp; done) | (simp; omega))⟩

theorem rcompare_gt (c n c' n' : Int) (w : World) (h : c' < c) :
    Calls Try.prog 65 #[.agg #[.int .i64 c, .int .i64 n], .agg #[.int .i64 c', .int .i64 n']] w fun e w' => e = .returned (.int .i64 (St.cmpS c n c' n')) ∧ Below w.heap.size w w' := by
  have h0 : St.cmpS c n c' n' = 1 := by (first | rw [St.cmpS_lt (by omega)] | rw [St.cmpS_gt (by omega)] | (rw [St.cmpS_eq (by omega)]; first | exact St.cmpI_lt (by omega) | exact St.cmpI_eq (by omega) | exact St.cmpI_gt (by omega)))
  have H0 := Lib.hid h0; clear h0
  have hd : decide (c < c') = false := decide_eq_false (by omega)
  have hd2 : (c == c') = false := beq_eq_false_iff_ne.2 (by omega)
  go_enter Try.func65, Try.ntmps65
  go_wp2
  go_ret
  rw [H0.out]
  exact ⟨rfl, by repeat (first | exact Below.refl _ _ | exact Nat.le_refl _ | (apply Below.drew) | (refine Below.alloc ?_ ?_ _) | (refine Below.setCell ?_ ?_ _) | (simp; done) | (simp; omega))⟩

theorem rcompare_nlt (c n c' n' : Int) (w : World) (h : c = c') (hn : n < n') :
    Calls Try.prog 65 #[.agg #[.int .i64 c, .int .i64 n], .agg #[.int .i64 c', .int .i64 n']] w fun e w' => e = .returned (.int .i64 (St.cmpS c n c' n')) ∧ Below w.heap.size w w' := by
  have h0 : St.cmpS c n c' n' = -1 := by (first | rw [St.cmpS_lt (by omega)] | rw [St.cmpS_gt (by omega)] | (rw [St.cmpS_eq (by omega)]; first | exact St.cmpI_lt (by omega) | exact St.cmpI_eq (by omega) | exact St.cmpI_gt (by omega)))
  have H0 := Lib.hid h0; clear h0
  have hd : decide (c < c') = false := decide_eq_false (by omega)
  have hd2 : (c == c') = true := beq_iff_eq.2 h
  have hd3 : decide (n < n') = true := decide_eq_true hn
  clear h
  go_enter Try.func65, Try.ntmps65
  go_wp2
  go_ret
  rw [H0.out]
  exact ⟨rfl, by repeat (first | exact Below.refl _ _ | exact Nat.le_refl _ | (apply Below.drew) | (refine Below.alloc ?_ ?_ _) | (refine Below.setCell ?_ ?_ _) | (simp; done) | (simp; omega))⟩

theorem rcompare_ngt (c n c' n' : Int) (w : World) (h : c = c') (hn : n' < n) :
    Calls Try.prog 65 #[.agg #[.int .i64 c, .int .i64 n], .agg #[.int .i64 c', .int .i64 n']] w fun e w' => e = .returned (.int .i64 (St.cmpS c n c' n')) ∧ Below w.heap.size w w' := by
  have h0 : St.cmpS c n c' n' = 1 := by (first | rw [St.cmpS_lt (by omega)] | rw [St.cmpS_gt (by omega)] | (rw [St.cmpS_eq (by omega)]; first | exact St.cmpI_lt (by omega) | exact St.cmpI_eq (by omega) | exact St.cmpI_gt (by omega)))
  have H0 := Lib.hid h0; clear h0
  have hd : decide (c < c') = false := decide_eq_false (by omega)
  have hd2 : (c == c') = true := beq_iff_eq.2 h
  have hd3 : decide (n < n') = false := decide_eq_false (by omega)
  have hd4 : (n == n') = false := beq_eq_false_iff_ne.2 (by omega)
  clear h
  go_enter Try.func65, Try.ntmps65
  go_wp2
  go_ret
  rw [H0.out]
  exact ⟨rfl, by repeat (first | exact Below.refl _ _ | exact Nat.le_refl _ | (apply Below.drew) | (refine Below.alloc ?_ ?_ _) | (refine Below.setCell ?_ ?_ _) | (simp; done) | (simp; omega))⟩

theorem rcompare_eq (c n c' n' : Int) (w : World) (h : c = c') (hn : n = n') :
    Calls Try.prog 65 #[.agg #[.int .i64 c, .int .i64 n], .agg #[.int .i64 c', .int .i64 n']] w fun e w' => e = .returned (.int .i64 (St.cmpS c n c' n')) ∧ Below w.heap.size w w' := by
  have h0 : St.cmpS c n c' n' = 0 := by (first | rw [St.cmpS_lt (by omega)] | rw [St.cmpS_gt (by omega)] | (rw [St.cmpS_eq (by omega)]; first | exact St.cmpI_lt (by omega) | exact St.cmpI_eq (by omega) | exact St.cmpI_gt (by omega)))
  have H0 := Lib.hid h0; clear h0
  have hd : decide (c < c') = false := decide_eq_false (by omega)
  have hd2 : (c == c') = true := beq_iff_eq.2 h
  have hd3 : decide (n < n') = false := decide_eq_false (by omega)
  have hd4 : (n == n') = true := beq_iff_eq.2 hn
  clear h hn
  go_enter Try.func65, Try.ntmps65
  go_wp2
  go_ret
  rw [H0.out]
  exact ⟨rfl, by repeat (first | exact Below.refl _ _ | exact Nat.le_refl _ | (apply Below.drew) | (refine Below.alloc ?_ ?_ _) | (refine Below.setCell ?_ ?_ _) | (simp; done) | (simp; omega))⟩

/-- telltaleref01's Compare. -/
theorem rcompare_any (c n c' n' : Int) (w : World) :
    Calls Try.prog 65 #[.agg #[.int .i64 c, .int .i64 n], .agg #[.int .i64 c', .int .i64 n']] w fun e w' => e = .returned (.int .i64 (St.cmpS c n c' n')) ∧ Below w.heap.size w w' := by
  rcases Int.lt_trichotomy c c' with h | h | h
  · exact rcompare_lt c n c' n' w h
  · rcases Int.lt_trichotomy n n' with hn | hn | hn
    · exact rcompare_nlt c n c' n' w h hn
    · exact rcompare_eq c n c' n' w h hn
    · exact rcompare_ngt c n c' n' w h hn
  · exact rcompare_gt c n c' n' w h

end Go.Proofs.Ytoaclofobfaflaa
namespace Go.Proofs.Ytoaclofobfaflaa
open Go.RowKit Fb

namespace Nt
/-- The thrifty start of a note behind another one. -/
def thrifty (a b : Note) (i : Nat) : Int := if Ve.cnt a.e i < Ve.cnt b.s i then Ve.cnt b.s i else Ve.cnt a.s i
def thriftyTo (a b : Note) (k : Nat) (i : Nat) : Int := if i < k ∧ Ve.cnt a.e i < Ve.cnt b.s i then Ve.cnt b.s i else Ve.cnt a.s i
/-- The write of an object that both have, the newer one. -/
def pick (a b : Note) (o : Nat) : Wr × Bool :=
  let v := at_ a.ws o
  let x := at_ b.ws o
  (if x.2 = true ∧ (v.2 = false ∨ St.cmpS v.1.1 v.1.2.1 x.1.1 x.1.2.1 < 0) then x.1 else v.1, v.2 || x.2)
def mergedTo (a b : Note) (blur : List (Int × Int)) : Nat → List Wr
  | 0 => []
  | k + 1 => mergedTo a b blur k ++ (if (pick a b k).2 = true ∧ Sp.inL blur k = false then [(pick a b k).1] else [])
/-- One note for two. -/
def merge (a b : Note) : Note × Int :=
  if fmd a = true ∧ fmd b = true then (⟨Ve.ofL (thrifty a b), Ve.joinL [a.e, b.e], Sp.joinS [a.b, b.b], mergedTo a b (Sp.joinS [a.b, b.b]) 256⟩, 0) else (noNote, 1)
theorem mergedTo_len (a b : Note) (bl : List (Int × Int)) : ∀ k, (mergedTo a b bl k).length ≤ k
  | 0 => Nat.le_refl _
  | k + 1 => by
    have := mergedTo_len a b bl k
    unfold mergedTo
    split <;> simp <;> omega
theorem merged_yes {a b : Note} {bl : List (Int × Int)} {k : Nat} {p : Wr} (h : pick a b k = (p, true)) (hi : Sp.inL bl k = false) : mergedTo a b bl (k + 1) = mergedTo a b bl k ++ [p] := by
  show mergedTo a b bl k ++ (if (pick a b k).2 = true ∧ Sp.inL bl k = false then [(pick a b k).1] else []) = _
  rw [h, if_pos ⟨rfl, hi⟩]
theorem merged_none {a b : Note} {bl : List (Int × Int)} {k : Nat} {p : Wr} (h : pick a b k = (p, false)) : mergedTo a b bl (k + 1) = mergedTo a b bl k := by
  show mergedTo a b bl k ++ (if (pick a b k).2 = true ∧ Sp.inL bl k = false then [(pick a b k).1] else []) = _
  rw [h, if_neg (fun q => by cases q.1), List.append_nil]
theorem merged_blur {a b : Note} {bl : List (Int × Int)} {k : Nat} (hi : Sp.inL bl k = true) : mergedTo a b bl (k + 1) = mergedTo a b bl k := by
  show mergedTo a b bl k ++ (if (pick a b k).2 = true ∧ Sp.inL bl k = false then [(pick a b k).1] else []) = _
  rw [hi, if_neg (fun q => by cases q.2), List.append_nil]
theorem thrifty_start (a b : Note) (i : Nat) : Ve.cnt a.s i = thriftyTo a b 0 i := by unfold thriftyTo; rw [if_neg (by omega)]
theorem thrifty_here (a b : Note) (k : Nat) : thriftyTo a b k k = Ve.cnt a.s k := by unfold thriftyTo; rw [if_neg (by omega)]
theorem thrifty_yes (a b : Note) (k : Nat) (h : Ve.cnt a.e k < Ve.cnt b.s k) (i : Nat) : (if i = k then Ve.cnt b.s k else thriftyTo a b k i) = thriftyTo a b (k + 1) i := by
  unfold thriftyTo
  by_cases e : i = k
  · subst e; rw [if_pos rfl, if_pos ⟨by omega, h⟩]
  · rw [if_neg e]
    by_cases q : i < k ∧ Ve.cnt a.e i < Ve.cnt b.s i
    · rw [if_pos q, if_pos ⟨by omega, q.2⟩]
    · rw [if_neg q, if_neg (fun r => q ⟨by omega, r.2⟩)]
theorem thrifty_no (a b : Note) (k : Nat) (h : ¬ Ve.cnt a.e k < Ve.cnt b.s k) (i : Nat) : thriftyTo a b k i = thriftyTo a b (k + 1) i := by
  unfold thriftyTo
  by_cases q : i < k ∧ Ve.cnt a.e i < Ve.cnt b.s i
  · rw [if_pos q, if_pos ⟨by omega, q.2⟩]
  · rw [if_neg q, if_neg]
    rintro ⟨r1, r2⟩
    by_cases e : i = k
    · subst e; exact h r2
    · exact q ⟨by omega, r2⟩
theorem thrifty_end (a b : Note) (i : Nat) (hi : i < 64) : thriftyTo a b 64 i = thrifty a b i := by
  unfold thriftyTo thrifty
  by_cases q : Ve.cnt a.e i < Ve.cnt b.s i
  · rw [if_pos ⟨hi, q⟩, if_pos q]
  · rw [if_neg (fun r => q r.2), if_neg q]
end Nt

set_option maxRecDepth 100000 in
set_option maxHeartbeats 9600000 in
theorem nmerge_any (S E B V S' E' B' V' : Option Addr) (cs ce cb cv cs' ce' cb' cv' : Nat) (n m : Note) (w : World) (h1 : NoteAt w S E B V cs ce cb cv n) (h2 : NoteAt w S' E' B' V' cs' ce' cb' cv' m) :
    Calls Try.prog 28 #[.agg (noteCells S E B V cs ce cb cv n), .agg (noteCells S' E' B' V' cs' ce' cb' cv' m)] w (AnsNE (Nt.merge n m).1 (Nt.merge n m).2 w) := by
  obtain ⟨i0, hI, hZ0, hZ1, hZ2⟩ := info_parts infoWr
  obtain ⟨W, hW⟩ : ∃ W, ((w.alloc (.cells (noteCells S E B V cs ce cb cv n) 26)).alloc (.cells (noteCells S' E' B' V' cs' ce' cb' cv' m) 26)).alloc (.cells #[.slice none 0 0, .slice none 0 0, .slice none 0 0, .slice none 0 0] 26) = W := ⟨_, rfl⟩
  have hb0 : Below w.heap.size w W := by rw [← hW]; exact below_new (below_new (below_new (Below.refl _ _) _) _) _
  have hB0 : Blk W w.heap.size 26 (noteCells S E B V cs ce cb cv n) := by rw [← hW]; exact ((Blk.new w _ _).alloc _).alloc _
  have hB1 : Blk W (w.heap.size + 1) 26 (noteCells S' E' B' V' cs' ce' cb' cv' m) := by
    rw [← hW, show w.heap.size + 1 = (w.alloc (.cells (noteCells S E B V cs ce cb cv n) 26)).heap.size from by simp]
    exact (Blk.new _ _ _).alloc _
  have hB2 : Blk W (w.heap.size + 2) 26 #[.slice none 0 0, .slice none 0 0, .slice none 0 0, .slice none 0 0] := by
    rw [← hW, show w.heap.size + 2 = ((w.alloc (.cells (noteCells S E B V cs ce cb cv n) 26)).alloc (.cells (noteCells S' E' B' V' cs' ce' cb' cv' m) 26)).heap.size from by simp]
    exact Blk.new _ _ _
  obtain ⟨c0, c1, c2, c3⟩ := note_cells hB0
  obtain ⟨d0, d1, d2, d3⟩ := note_cells hB1
  have g0 := c0
  have g1 := c1
  have g2 := c2
  have g3 := c3
  rw [← hW] at g0 g1 g2 g3
  have HN := Lib.hid (h1.later hb0)
  have HM := Lib.hid (h2.later hb0)
  have HB0 := Lib.hid hB0
  have HB1 := Lib.hid hB1
  have HB2 := Lib.hid hB2
  have N0 := Lib.hid (nformed_any S E B V cs ce cb cv n W (h1.later hb0))
  have N1 := Lib.hid (fun wx (hb : Below W.heap.size W wx) => nformed_any S' E' B' V' cs' ce' cb' cv' m wx (HM.out.later hb))
  have HT := Lib.hid (show Nt.merge n m = if Nt.fmd n = true ∧ Nt.fmd m = true then (⟨Ve.ofL (Nt.thrifty n m), Ve.joinL [n.e, m.e], Sp.joinS [n.b, m.b], Nt.mergedTo n m (Sp.joinS [n.b, m.b]) 256⟩, 0) else (noNote, 1) from rfl)
  obtain ⟨x0, hx0⟩ : ∃ x, Nt.fmd n = x := ⟨_, rfl⟩
  obtain ⟨x1, hx1⟩ : ∃ x, Nt.fmd m = x := ⟨_, rfl⟩
  rw [hx0] at N0 HT
  rw [hx1] at N1 HT
  have HW := Lib.hid hW
  clear hW hB0 hB1 hB2 h1 h2 hx0 hx1
  cases x0 with
  | false =>
    have HT2 := Lib.hid (HT.out.trans (if_neg (fun h => by cases h.1)))
    go_enter Try.func28, Try.ntmps28
    go_wp2_with fail
    rw [HW.out]
    refine N0.out.mono ?_
    rintro e w1 ⟨rfl, b1⟩
    have hq := HB2.out.later b1
    obtain ⟨⟨z0, z1, z2, z3⟩, r0, r1, r2, r3⟩ := nt_cells hq
    have HQ := Lib.hid hq
    clear hq
    go_wp2
    refine bodyPost_ret (results_cell_tmp (p := 4) (t1 := 5) (ty := 26) rfl _ _ (w.heap.size + 2) 26 (noteCells none none none none 0 0 0 0 noNote) _ rfl (nt_puts HQ.out none none none none 0 0 0 0 noNote) Try.underlying26 rfl infoNt) rfl ?_
    rw [HT2.out]
    exact ⟨_, _, _, _, _, _, _, _, rfl, noNote_at _, below_puts (below_on hb0 b1) (by omega) _ _ _ _⟩
  | true =>
  cases x1 with
  | false =>
    have HT2 := Lib.hid (HT.out.trans (if_neg (fun h => by cases h.2)))
    go_enter Try.func28, Try.ntmps28
    go_wp2_with fail
    rw [HW.out]
    refine N0.out.mono ?_
    rintro e w1 ⟨rfl, b1⟩
    have y0 := cell_later b1 d0
    have y1 := cell_later b1 d1
    have y2 := cell_later b1 d2
    have y3 := cell_later b1 d3
    go_wp2_with fail
    refine (N1.out _ b1).mono ?_
    rintro e w2 ⟨rfl, b2⟩
    have bb2 := below_on b1 b2
    have hq := HB2.out.later bb2
    obtain ⟨⟨z0, z1, z2, z3⟩, r0, r1, r2, r3⟩ := nt_cells hq
    have HQ := Lib.hid hq
    clear hq
    go_wp2
    refine bodyPost_ret (results_cell_tmp (p := 4) (t1 := 5) (ty := 26) rfl _ _ (w.heap.size + 2) 26 (noteCells none none none none 0 0 0 0 noNote) _ rfl (nt_puts HQ.out none none none none 0 0 0 0 noNote) Try.underlying26 rfl infoNt) rfl ?_
    rw [HT2.out]
    exact ⟨_, _, _, _, _, _, _, _, rfl, noNote_at _, below_puts (below_on hb0 bb2) (by omega) _ _ _ _⟩
  | true =>
  have HT2 := Lib.hid (HT.out.trans (if_pos ⟨rfl, rfl⟩))
  clear HT
  go_enter Try.func28, Try.ntmps28
  go_wp2_with fail
  rw [HW.out]
  refine N0.out.mono ?_
  rintro e w1 ⟨rfl, b1⟩
  have y0 := cell_later b1 d0
  have y1 := cell_later b1 d1
  have y2 := cell_later b1 d2
  have y3 := cell_later b1 d3
  go_wp2_with fail
  refine (N1.out _ b1).mono ?_
  rintro e W4 ⟨rfl, b2⟩
  have bb2 := below_on b1 b2
  clear y0 y1 y2 y3 g0 g1 g2 g3 N0 N1
  go_wp2_with fail
  have p0 := cell_later bb2 c0
  have p1 := cell_later bb2 c1
  have p2 := cell_later bb2 d0
  have hn4 := HN.out.later bb2
  have hm4 := HM.out.later bb2
  have C0 := Lib.hid (fun wx (hb : Below W4.heap.size W4 wx) => counts_any S cs n.s wx hn4.hs.len (hn4.hs.later hb).stamps)
  have C1 := Lib.hid (fun wx (hb : Below W4.heap.size W4 wx) => counts_any E ce n.e wx hn4.he.len (hn4.he.later hb).stamps)
  have C2 := Lib.hid (fun wx (hb : Below W4.heap.size W4 wx) => counts_any S' cs' m.s wx hm4.hs.len (hm4.hs.later hb).stamps)
  clear hn4 hm4
  refine wp_region_facts2 12 (by kernel_rfl) (by kernel_rfl)
    (fun v => { tmps := #[.agg (noteCells S E B V cs ce cb cv n), .agg (noteCells S' E' B' V' cs' ce' cb' cv' m), .pointer (some ⟨w.heap.size, 0, none⟩), .pointer (some ⟨w.heap.size + 1, 0, none⟩), .pointer (some ⟨w.heap.size + 2, 0, none⟩), .int .i64 0, v 9, v 10, v 11, undef, undef, undef, undef, undef, undef, undef, undef, .agg #[.slice S n.s.length cs, .slice E n.e.length ce, .slice B n.b.length cb, .slice V n.ws.length cv], .bool true, .bool false, .bool false, .agg #[.slice S' m.s.length cs', .slice E' m.e.length ce', .slice B' m.b.length cb', .slice V' m.ws.length cv'], .bool true, .bool false, .bool false, undef, v 0, v 1, v 2, v 3, v 4, v 5, v 6, v 7, v 8, undef, undef, undef, undef, undef, undef, undef, undef, undef, undef, undef, undef, undef, undef, undef, undef, undef, undef, undef, undef, undef, undef, undef, undef, undef, undef, undef, undef, undef, undef, undef, undef, undef, undef, undef, undef, undef, undef, undef, undef, undef, undef, undef, undef, undef, undef, undef, undef, undef, undef, undef, undef, undef, undef, undef, undef, undef, undef, undef, undef, undef, undef, undef, undef, undef, undef, undef, undef, undef, undef, undef, undef, undef, undef, undef, undef, undef, undef, undef, undef, undef], defers := [] }) (fun _ => undef)
    (fun i x wx => match i with
      | 0 => x = .pointer (some ⟨w.heap.size, 0, none⟩)
      | 1 => x = .slice S n.s.length cs
      | 2 => x = .agg (Ve.arr (Ve.cnt n.s))
      | 3 => x = .pointer (some ⟨w.heap.size, 1, none⟩)
      | 4 => x = .slice E n.e.length ce
      | 5 => x = .agg (Ve.arr (Ve.cnt n.e))
      | 6 => x = .pointer (some ⟨w.heap.size + 1, 0, none⟩)
      | 7 => x = .slice S' m.s.length cs'
      | 8 => x = .agg (Ve.arr (Ve.cnt m.s))
      | 9 => ∃ g, x = .pointer (some ⟨g, 0, none⟩) ∧ Blk wx g 75 (Ve.arr fun _ => 0) ∧ W4.heap.size ≤ g
      | 10 => ∃ g, x = .pointer (some ⟨g, 0, none⟩) ∧ Blk wx g 75 (Ve.arr fun _ => 0) ∧ W4.heap.size ≤ g
      | 11 => ∃ g, x = .pointer (some ⟨g, 0, none⟩) ∧ Blk wx g 75 (Ve.arr fun _ => 0) ∧ W4.heap.size ≤ g
      | _ => True)
    (fun i j x y => (9 ≤ i ∧ i ≤ 11 ∧ 9 ≤ j ∧ j ≤ 11) → x ≠ y)
    (fun w1 w2 => Below w1.heap.size w1 w2) (fun h1 h2 => below_on h1 h2) (fun _ => Below.refl _ _) (Below.drew (Below.refl _ _)) ?stab ?step ?done
  case stab =>
    rintro i x w1 w2 h hb
    match i, h with
    | 0, h => exact h
    | 1, h => exact h
    | 2, h => exact h
    | 3, h => exact h
    | 4, h => exact h
    | 5, h => exact h
    | 6, h => exact h
    | 7, h => exact h
    | 8, h => exact h
    | 9, h => obtain ⟨g, h1, h2, h3⟩ := h; exact ⟨g, h1, h2.later hb, h3⟩
    | 10, h => obtain ⟨g, h1, h2, h3⟩ := h; exact ⟨g, h1, h2.later hb, h3⟩
    | 11, h => obtain ⟨g, h1, h2, h3⟩ := h; exact ⟨g, h1, h2.later hb, h3⟩
    | i + 12, _ => trivial
  case step =>
    intro i hi v w' hb hd
    match i, hi with
    | 0, _ =>
      refine wpOp_one rfl ?_
      clear hd
      go_wp2
      exact ⟨_, by simp [upd]; done, Below.refl _ _, rfl, fun j y _ _ => ⟨fun h => by omega, fun h => by omega⟩⟩
    | 1, _ =>
      have h0 : v 0 = _ := hd 0 (List.elem_iff.1 (by kernel_rfl))
      refine wpOp_one rfl ?_
      clear hd
      rw [h0]
      have q0 := cell_later hb p0
      go_wp2
      exact ⟨_, by simp [upd, h0]; done, Below.refl _ _, rfl, fun j y _ _ => ⟨fun h => by omega, fun h => by omega⟩⟩
    | 2, _ =>
      have h1 : v 1 = _ := hd 1 (List.elem_iff.1 (by kernel_rfl))
      refine wpOp_one rfl ?_
      clear hd
      rw [h1]
      go_wp2_with fail
      refine (C0.out _ hb).mono ?_
      rintro e w'' ⟨rfl, b⟩
      go_wp2
      exact ⟨_, by simp [upd, h1]; done, b, rfl, fun j y _ _ => ⟨fun h => by omega, fun h => by omega⟩⟩
    | 3, _ =>
      refine wpOp_one rfl ?_
      clear hd
      go_wp2
      exact ⟨_, by simp [upd]; done, Below.refl _ _, rfl, fun j y _ _ => ⟨fun h => by omega, fun h => by omega⟩⟩
    | 4, _ =>
      have h3 : v 3 = _ := hd 3 (List.elem_iff.1 (by kernel_rfl))
      refine wpOp_one rfl ?_
      clear hd
      rw [h3]
      have q0 := cell_later hb p1
      go_wp2
      exact ⟨_, by simp [upd, h3]; done, Below.refl _ _, rfl, fun j y _ _ => ⟨fun h => by omega, fun h => by omega⟩⟩
    | 5, _ =>
      have h4 : v 4 = _ := hd 4 (List.elem_iff.1 (by kernel_rfl))
      refine wpOp_one rfl ?_
      clear hd
      rw [h4]
      go_wp2_with fail
      refine (C1.out _ hb).mono ?_
      rintro e w'' ⟨rfl, b⟩
      go_wp2
      exact ⟨_, by simp [upd, h4]; done, b, rfl, fun j y _ _ => ⟨fun h => by omega, fun h => by omega⟩⟩
    | 6, _ =>
      refine wpOp_one rfl ?_
      clear hd
      go_wp2
      exact ⟨_, by simp [upd]; done, Below.refl _ _, rfl, fun j y _ _ => ⟨fun h => by omega, fun h => by omega⟩⟩
    | 7, _ =>
      have h6 : v 6 = _ := hd 6 (List.elem_iff.1 (by kernel_rfl))
      refine wpOp_one rfl ?_
      clear hd
      rw [h6]
      have q0 := cell_later hb p2
      go_wp2
      exact ⟨_, by simp [upd, h6]; done, Below.refl _ _, rfl, fun j y _ _ => ⟨fun h => by omega, fun h => by omega⟩⟩
    | 8, _ =>
      have h7 : v 7 = _ := hd 7 (List.elem_iff.1 (by kernel_rfl))
      refine wpOp_one rfl ?_
      clear hd
      rw [h7]
      go_wp2_with fail
      refine (C2.out _ hb).mono ?_
      rintro e w'' ⟨rfl, b⟩
      go_wp2
      exact ⟨_, by simp [upd, h7]; done, b, rfl, fun j y _ _ => ⟨fun h => by omega, fun h => by omega⟩⟩
    | 9, _ =>
      refine wpOp_one rfl ?_
      clear hd
      have hz := hb.size
      go_wp2
      refine ⟨_, by simp [upd]; done, below_new (Below.refl _ _) _, ⟨w'.heap.size, rfl, by rw [Ve.arr_zero]; exact Blk.new _ _ _, by omega⟩, fun j y hne hy => ?_⟩
      have hj : 9 ≤ j → j ≤ 11 → y ≠ .pointer (some ⟨w'.heap.size, 0, none⟩) := fun h1 h2 e => by
        have h3 : j = 9 ∨ j = 10 ∨ j = 11 := by omega
        rcases h3 with rfl | rfl | rfl <;> (obtain ⟨g, h4, h5, _⟩ := hy; rw [e] at h4; have h6 := h5.lt; injection h4 with h4; injection h4 with h4; injection h4 with h4; omega)
      exact ⟨fun h => (fun e => hj h.2.2.1 h.2.2.2 e.symm), fun h => hj h.1 h.2.1⟩
    | 10, _ =>
      refine wpOp_one rfl ?_
      clear hd
      have hz := hb.size
      go_wp2
      refine ⟨_, by simp [upd]; done, below_new (Below.refl _ _) _, ⟨w'.heap.size, rfl, by rw [Ve.arr_zero]; exact Blk.new _ _ _, by omega⟩, fun j y hne hy => ?_⟩
      have hj : 9 ≤ j → j ≤ 11 → y ≠ .pointer (some ⟨w'.heap.size, 0, none⟩) := fun h1 h2 e => by
        have h3 : j = 9 ∨ j = 10 ∨ j = 11 := by omega
        rcases h3 with rfl | rfl | rfl <;> (obtain ⟨g, h4, h5, _⟩ := hy; rw [e] at h4; have h6 := h5.lt; injection h4 with h4; injection h4 with h4; injection h4 with h4; omega)
      exact ⟨fun h => (fun e => hj h.2.2.1 h.2.2.2 e.symm), fun h => hj h.1 h.2.1⟩
    | 11, _ =>
      refine wpOp_one rfl ?_
      clear hd
      have hz := hb.size
      go_wp2
      refine ⟨_, by simp [upd]; done, below_new (Below.refl _ _) _, ⟨w'.heap.size, rfl, by rw [Ve.arr_zero]; exact Blk.new _ _ _, by omega⟩, fun j y hne hy => ?_⟩
      have hj : 9 ≤ j → j ≤ 11 → y ≠ .pointer (some ⟨w'.heap.size, 0, none⟩) := fun h1 h2 e => by
        have h3 : j = 9 ∨ j = 10 ∨ j = 11 := by omega
        rcases h3 with rfl | rfl | rfl <;> (obtain ⟨g, h4, h5, _⟩ := hy; rw [e] at h4; have h6 := h5.lt; injection h4 with h4; injection h4 with h4; injection h4 with h4; omega)
      exact ⟨fun h => (fun e => hj h.2.2.1 h.2.2.2 e.symm), fun h => hj h.1 h.2.1⟩
  case done =>
    intro v w' hb hf hr
    have h2 : v 2 = _ := hf 2 (by omega)
    have h5 : v 5 = _ := hf 5 (by omega)
    have h8 : v 8 = _ := hf 8 (by omega)
    obtain ⟨g6, h9, q6, l6⟩ := hf 9 (by omega)
    obtain ⟨g7, h10, q7, l7⟩ := hf 10 (by omega)
    obtain ⟨g8, h11, q8, l8⟩ := hf 11 (by omega)
    have n67 : g6 ≠ g7 := fun e => hr 9 10 (by omega) (by omega) (by omega) ⟨by omega, by omega, by omega, by omega⟩ (by rw [h9, h10, e])
    have n68 : g6 ≠ g8 := fun e => hr 9 11 (by omega) (by omega) (by omega) ⟨by omega, by omega, by omega, by omega⟩ (by rw [h9, h11, e])
    have n78 : g7 ≠ g8 := fun e => hr 10 11 (by omega) (by omega) (by omega) ⟨by omega, by omega, by omega, by omega⟩ (by rw [h10, h11, e])
    clear hf hr
    simp only [List.drop_succ_cons, List.drop_zero]
    rw [h2, h5, h8, h9, h10, h11]
    have u7 := q7.rowFar n67.symm (Ve.arr (Ve.cnt n.s))
    have u8 := (q8.rowFar n68.symm (Ve.arr (Ve.cnt n.s))).rowFar n78.symm (Ve.arr (Ve.cnt n.e))
    have G6 := ((q6.row (Ve.arr (Ve.cnt n.s))).rowFar n67 (Ve.arr (Ve.cnt n.e))).rowFar n68 (Ve.arr (Ve.cnt m.s))
    have G7 := (u7.row (Ve.arr (Ve.cnt n.e))).rowFar n78 (Ve.arr (Ve.cnt m.s))
    have G8 := u8.row (Ve.arr (Ve.cnt m.s))
    have b5 := below_setRow (below_setRow (below_setRow hb l6 (Ve.arr (Ve.cnt n.s))) l7 (Ve.arr (Ve.cnt n.e))) l8 (Ve.arr (Ve.cnt m.s))
    clear C0 C1 C2 h2 h5 h8 h9 h10 h11
    go_wp2_with (first | (refine wpList_store_row rfl 75 _ _ rfl g6 (Ve.arr (Ve.cnt n.s)) rfl rfl 75 (Ve.arr fun _ => 0) q6 (by rw [Ve.arr_size]; exact info64) (by rw [Ve.arr_size, Ve.arr_size]) (one_arr _) ?_) | (refine wpList_store_row rfl 75 _ _ rfl g7 (Ve.arr (Ve.cnt n.e)) rfl rfl 75 (Ve.arr fun _ => 0) u7 (by rw [Ve.arr_size]; exact info64) (by rw [Ve.arr_size, Ve.arr_size]) (one_arr _) ?_) | (refine wpList_store_row rfl 75 _ _ rfl g8 (Ve.arr (Ve.cnt m.s)) rfl rfl 75 (Ve.arr fun _ => 0) u8 (by rw [Ve.arr_size]; exact info64) (by rw [Ve.arr_size, Ve.arr_size]) (one_arr _) ?_))
    obtain ⟨w5, hw5⟩ : ∃ w5, ((w'.setRow g6 (Ve.arr (Ve.cnt n.s))).setRow g7 (Ve.arr (Ve.cnt n.e))).setRow g8 (Ve.arr (Ve.cnt m.s)) = w5 := ⟨_, rfl⟩
    rw [hw5] at G6 G7 G8 b5 ⊢
    have HG6 := Lib.hid G6
    have HG7 := Lib.hid G7
    have HG8 := Lib.hid G8
    clear hw5 q6 q7 q8 u7 u8 G6 G7 G8 hb
    go_loopw [9] (fun s9 wr => ∃ k : Nat, k ≤ 64 ∧ s9 = .int .i64 (k : Int) ∧ Blk wr g6 75 (Ve.arr (Nt.thriftyTo n m k)) ∧ Blk wr g7 75 (Ve.arr (Ve.cnt n.e)) ∧ Blk wr g8 75 (Ve.arr (Ve.cnt m.s)) ∧ Below W4.heap.size W4 wr) (fun s9 _ => 64 - (intOf s9).toNat)
    case atStart =>
      exact ⟨0, Nat.zero_le _, rfl, HG6.out.same fun i _ => Nt.thrifty_start n m i, HG7.out, HG8.out, b5⟩
    case round =>
      obtain ⟨k, hk, rfl, hC, hE, hD, hbw⟩ := hrel
      by_cases hlt : k < 64
      · have x0 := hE.arr_cell k hlt
        have y0 := hD.arr_cell k hlt
        have x1 := hC.free k
        have z0 := hC.arr_cell k hlt
        rw [Nt.thrifty_here n m k] at z0
        have hj0 : (0 : Int) ≤ (k : Int) := by omega
        have hj1 : (k : Int) < 64 := by omega
        by_cases hgt : Ve.cnt n.e k < Ve.cnt m.s k
        · have B6 := (hC.arr_put k hlt (Ve.cnt m.s k)).same (f' := Nt.thriftyTo n m (k + 1)) (fun i _ => Nt.thrifty_yes n m k hgt i)
          have B7 := hE.far (p := ⟨g6, k, none⟩) (by show g7 ≠ g6; exact n67.symm) (.int .i64 (Ve.cnt m.s k))
          have B8 := hD.far (p := ⟨g6, k, none⟩) (by show g8 ≠ g6; exact n68.symm) (.int .i64 (Ve.cnt m.s k))
          have HB := Lib.hid (And.intro B6 (And.intro B7 B8))
          have hbz := hbw.setCell (p := ⟨g6, k, none⟩) (by show W4.heap.size ≤ g6; exact l6) (.int .i64 (Ve.cnt m.s k))
          clear hC hE hD B6 B7 B8
          go_wp2_with fail
          go_region
          go_wp2_with fail
          go_roundw
          case rel => exact ⟨k + 1, by omega, by go_num, HB.out.1.drew, HB.out.2.1.drew, HB.out.2.2.drew, hbz.drew⟩
          case measure => simp [intOf]; omega
        · have hle : ¬ Ve.cnt n.e k < Ve.cnt m.s k := hgt
          have B6 := hC.same (f' := Nt.thriftyTo n m (k + 1)) (fun i _ => Nt.thrifty_no n m k hgt i)
          have HB := Lib.hid (And.intro B6 (And.intro hE hD))
          clear hC hE hD B6
          go_wp2_with fail
          go_region
          go_wp2_with fail
          go_roundw
          case rel => exact ⟨k + 1, by omega, by go_num, HB.out.1.drew, HB.out.2.1.drew, HB.out.2.2.drew, hbw.drew⟩
          case measure => simp [intOf]; omega
      · have hkl : k = 64 := by omega
        subst hkl
        have HC := Lib.hid (hC.same (f' := Nt.thrifty n m) (fun i hi => Nt.thrifty_end n m i hi))
        have HE := Lib.hid hE
        clear hC hE hD
        have e1 := cell_later (below_on bb2 hbw) c1
        have e2 := cell_later (below_on bb2 hbw) c2
        have f1 := cell_later (below_on bb2 hbw) d1
        have f2 := cell_later (below_on bb2 hbw) d2
        have hn6 := HN.out.later (below_on bb2 hbw)
        have hm6 := HM.out.later (below_on bb2 hbw)
        have T1 := Lib.hid (fun wx (hb : Below wr.heap.size wr wx) => (rtwo_any E E' ce ce' n.e m.e wx (hn6.he.later hb) (hm6.he.later hb)).mono fun _ _ hg => hg.one)
        have T2 := Lib.hid (fun wx (hb : Below wr.heap.size wr wx) => (stwo_any B B' cb cb' n.b m.b wx (hn6.hb.later hb) (hm6.hb.later hb)).mono fun _ _ hg => hg.one)
        clear hn6 hm6
        go_wp2_with fail
        refine wp_region_facts 14 (by kernel_rfl) (by kernel_rfl)
          (fun vv => { tmps := #[.agg (noteCells S E B V cs ce cb cv n), .agg (noteCells S' E' B' V' cs' ce' cb' cv' m), .pointer (some ⟨w.heap.size, 0, none⟩), .pointer (some ⟨w.heap.size + 1, 0, none⟩), .pointer (some ⟨w.heap.size + 2, 0, none⟩), .int .i64 0, .pointer (some ⟨g6, 0, none⟩), .pointer (some ⟨g7, 0, none⟩), .pointer (some ⟨g8, 0, none⟩), .int .i64 ((64 : Nat) : Int), vv 13, undef, undef, undef, undef, undef, undef, .agg #[.slice S n.s.length cs, .slice E n.e.length ce, .slice B n.b.length cb, .slice V n.ws.length cv], .bool true, .bool false, .bool false, .agg #[.slice S' m.s.length cs', .slice E' m.e.length ce', .slice B' m.b.length cb', .slice V' m.ws.length cv'], .bool true, .bool false, .bool false, undef, v 0, v 1, .agg (Ve.arr (Ve.cnt n.s)), v 3, v 4, .agg (Ve.arr (Ve.cnt n.e)), v 6, v 7, .agg (Ve.arr (Ve.cnt m.s)), .int .i64 ((64 : Nat) : Int), .bool false, u37, u38, u39, u40, u41, u42, u43, u44, u45, u46, u47, u48, u49, u50, vv 0, vv 1, vv 2, vv 3, vv 4, vv 5, vv 6, vv 7, vv 8, vv 9, vv 10, vv 11, vv 12, undef, undef, undef, undef, undef, undef, undef, undef, undef, undef, undef, undef, undef, undef, undef, undef, undef, undef, undef, undef, undef, undef, undef, undef, undef, undef, undef, undef, undef, undef, undef, undef, undef, undef, undef, undef, undef, undef, undef, undef, undef, undef, undef, undef, undef, undef, undef, undef, undef, undef, undef, undef], defers := [] }) (fun _ => undef)
          (fun i x wx => match i with
            | 0 => x = .agg (Ve.arr (Nt.thrifty n m))
            | 1 => ∃ A c, x = .slice A (Ve.ofL (Nt.thrifty n m)).length c ∧ OneL wx A c (Ve.ofL (Nt.thrifty n m))
            | 2 => x = .pointer (some ⟨w.heap.size, 1, none⟩)
            | 3 => x = .slice E n.e.length ce
            | 4 => x = .pointer (some ⟨(w.heap.size + 1), 1, none⟩)
            | 5 => x = .slice E' m.e.length ce'
            | 6 => ∃ A c, x = .slice A (Ve.joinL [n.e, m.e]).length c ∧ OneL wx A c (Ve.joinL [n.e, m.e])
            | 7 => x = .pointer (some ⟨w.heap.size, 2, none⟩)
            | 8 => x = .slice B n.b.length cb
            | 9 => x = .pointer (some ⟨(w.heap.size + 1), 2, none⟩)
            | 10 => x = .slice B' m.b.length cb'
            | 11 => ∃ A c, x = .slice A (Sp.joinS [n.b, m.b]).length c ∧ OneL wx A c (Sp.joinS [n.b, m.b])
            | 12 => ∃ A1 c1 A2 c2 A3 c3, x = .agg #[.slice A1 (Ve.ofL (Nt.thrifty n m)).length c1, .slice A2 (Ve.joinL [n.e, m.e]).length c2, .slice A3 (Sp.joinS [n.b, m.b]).length c3, .slice none 0 0] ∧ OneL wx A1 c1 (Ve.ofL (Nt.thrifty n m)) ∧ OneL wx A2 c2 (Ve.joinL [n.e, m.e]) ∧ OneL wx A3 c3 (Sp.joinS [n.b, m.b])
            | 13 => ∃ g, x = .pointer (some ⟨g, 0, none⟩) ∧ Blk wx g 26 #[.slice none 0 0, .slice none 0 0, .slice none 0 0, .slice none 0 0] ∧ wr.heap.size ≤ g
            | _ => True)
          (fun w1 w2 => Below w1.heap.size w1 w2) (fun h1 h2 => below_on h1 h2) (fun _ => Below.refl _ _) (Below.drew (Below.refl _ _)) ?stab ?step ?done
        case stab =>
          rintro i x w1 w2 h hb
          match i, h with
          | 0, h => exact h
          | 1, h => obtain ⟨A, c, h1, h2⟩ := h; exact ⟨A, c, h1, h2.later hb⟩
          | 2, h => exact h
          | 3, h => exact h
          | 4, h => exact h
          | 5, h => exact h
          | 6, h => obtain ⟨A, c, h1, h2⟩ := h; exact ⟨A, c, h1, h2.later hb⟩
          | 7, h => exact h
          | 8, h => exact h
          | 9, h => exact h
          | 10, h => exact h
          | 11, h => obtain ⟨A, c, h1, h2⟩ := h; exact ⟨A, c, h1, h2.later hb⟩
          | 12, h => obtain ⟨A1, c1, A2, c2, A3, c3, h1, h2, h3, h4⟩ := h; exact ⟨A1, c1, A2, c2, A3, c3, h1, h2.later hb, h3.later hb, h4.later hb⟩
          | 13, h => obtain ⟨g, h1, h2, h3⟩ := h; exact ⟨g, h1, h2.later hb, h3⟩
          | i + 14, _ => trivial
        case step =>
          intro i hi v w' hb hd
          match i, hi with
          | 0, _ =>
            refine wpOp_one rfl ?_
            clear hd
            have q := HC.out.later hb
            go_wp2_with (refine wpList_load_row rfl 75 _ rfl g6 rfl 75 _ (0, 0) _ q Try.underlying75 rfl (by rw [Ve.arr_size]; exact info64) ?_)
            go_wp2
            exact ⟨_, by simp [upd, Act.put]; done, Below.refl _ _, rfl⟩
          | 1, _ =>
            have h0 : v 0 = _ := hd 0 (List.elem_iff.1 (by kernel_rfl))
            refine wpOp_one rfl ?_
            clear hd
            rw [h0]
            go_wp2_with fail
            refine ((of_any (Nt.thrifty n m) _).mono fun _ _ hg => hg.one).mono ?_
            rintro e w'' hg
            obtain ⟨A, c, rfl, ho, b⟩ := hg
            go_wp2
            exact ⟨_, by simp [upd, h0]; done, b, A, c, rfl, ho⟩
          | 2, _ =>
            refine wpOp_one rfl ?_
            clear hd
            go_wp2
            exact ⟨_, by simp [upd]; done, Below.refl _ _, rfl⟩
          | 3, _ =>
            have h2 : v 2 = _ := hd 2 (List.elem_iff.1 (by kernel_rfl))
            refine wpOp_one rfl ?_
            clear hd
            rw [h2]
            have q0 := cell_later hb e1
            go_wp2
            exact ⟨_, by simp [upd, h2]; done, Below.refl _ _, rfl⟩
          | 4, _ =>
            refine wpOp_one rfl ?_
            clear hd
            go_wp2
            exact ⟨_, by simp [upd]; done, Below.refl _ _, rfl⟩
          | 5, _ =>
            have h4 : v 4 = _ := hd 4 (List.elem_iff.1 (by kernel_rfl))
            refine wpOp_one rfl ?_
            clear hd
            rw [h4]
            have q0 := cell_later hb f1
            go_wp2
            exact ⟨_, by simp [upd, h4]; done, Below.refl _ _, rfl⟩
          | 6, _ =>
            have h3 : v 3 = _ := hd 3 (List.elem_iff.1 (by kernel_rfl))
            have h5 : v 5 = _ := hd 5 (List.elem_iff.1 (by kernel_rfl))
            refine wpOp_one rfl ?_
            clear hd
            rw [h3, h5]
            go_wp2_with fail
            refine (T1.out _ hb).mono ?_
            rintro e w'' hg
            obtain ⟨A, c, rfl, ho, b⟩ := hg
            go_wp2
            exact ⟨_, by simp [upd, h3, h5]; done, b, A, c, rfl, ho⟩
          | 7, _ =>
            refine wpOp_one rfl ?_
            clear hd
            go_wp2
            exact ⟨_, by simp [upd]; done, Below.refl _ _, rfl⟩
          | 8, _ =>
            have h7 : v 7 = _ := hd 7 (List.elem_iff.1 (by kernel_rfl))
            refine wpOp_one rfl ?_
            clear hd
            rw [h7]
            have q0 := cell_later hb e2
            go_wp2
            exact ⟨_, by simp [upd, h7]; done, Below.refl _ _, rfl⟩
          | 9, _ =>
            refine wpOp_one rfl ?_
            clear hd
            go_wp2
            exact ⟨_, by simp [upd]; done, Below.refl _ _, rfl⟩
          | 10, _ =>
            have h9 : v 9 = _ := hd 9 (List.elem_iff.1 (by kernel_rfl))
            refine wpOp_one rfl ?_
            clear hd
            rw [h9]
            have q0 := cell_later hb f2
            go_wp2
            exact ⟨_, by simp [upd, h9]; done, Below.refl _ _, rfl⟩
          | 11, _ =>
            have h8 : v 8 = _ := hd 8 (List.elem_iff.1 (by kernel_rfl))
            have h10 : v 10 = _ := hd 10 (List.elem_iff.1 (by kernel_rfl))
            refine wpOp_one rfl ?_
            clear hd
            rw [h8, h10]
            go_wp2_with fail
            refine (T2.out _ hb).mono ?_
            rintro e w'' hg
            obtain ⟨A, c, rfl, ho, b⟩ := hg
            go_wp2
            exact ⟨_, by simp [upd, h8, h10]; done, b, A, c, rfl, ho⟩
          | 12, _ =>
            obtain ⟨A1, k1, h1, o1⟩ := hd 1 (List.elem_iff.1 (by kernel_rfl))
            obtain ⟨A6, k6, h6, o6⟩ := hd 6 (List.elem_iff.1 (by kernel_rfl))
            obtain ⟨A11, k11, h11, o11⟩ := hd 11 (List.elem_iff.1 (by kernel_rfl))
            refine wpOp_one rfl ?_
            clear hd
            rw [h1, h6, h11]
            go_wp2
            exact ⟨_, by simp [upd, h1, h6, h11]; done, Below.refl _ _, A1, k1, A6, k6, A11, k11, rfl, o1, o6, o11⟩
          | 13, _ =>
            refine wpOp_one rfl ?_
            clear hd
            have hz := hb.size
            go_wp2
            exact ⟨_, by simp [upd]; done, below_new (Below.refl _ _) _, w'.heap.size, rfl, Blk.new _ _ _, by omega⟩
        case done =>
          intro vv w' hb hf
          obtain ⟨A1, k1, A2, k2, A3, k3, h12, o1, o2, o3⟩ := hf 12 (by omega)
          obtain ⟨gx, h13, qx, lx⟩ := hf 13 (by omega)
          have O := Lib.hid (And.intro o1 (And.intro o2 o3))
          clear o1 o2 o3 hf
          simp only [List.drop_succ_cons, List.drop_zero]
          rw [h12, h13]
          obtain ⟨⟨z0, z1, z2, z3⟩, r0, r1, r2, r3⟩ := nt_cells qx
          obtain ⟨L1, hL1⟩ : ∃ l, Ve.ofL (Nt.thrifty n m) = l := ⟨_, rfl⟩
          obtain ⟨L2, hL2⟩ : ∃ l, Ve.joinL [n.e, m.e] = l := ⟨_, rfl⟩
          obtain ⟨L3, hL3⟩ : ∃ l, Sp.joinS [n.b, m.b] = l := ⟨_, rfl⟩
          rw [hL1, hL2, hL3] at O HT2 ⊢
          have HL3 := Lib.hid hL3
          clear hL1 hL2 hL3 T1 T2 h12 h13
          go_wp2_with fail
          have P1 : Blk (w'.setCell ⟨gx, 0, none⟩ (.slice A1 L1.length k1)) gx 26 #[.slice A1 L1.length k1, .slice none 0 0, .slice none 0 0, .slice none 0 0] := qx.put 0 _
          have P2 : Blk ((w'.setCell ⟨gx, 0, none⟩ (.slice A1 L1.length k1)).setCell ⟨gx, 1, none⟩ (.slice A2 L2.length k2)) gx 26 #[.slice A1 L1.length k1, .slice A2 L2.length k2, .slice none 0 0, .slice none 0 0] := P1.put 1 _
          have P3 : Blk (((w'.setCell ⟨gx, 0, none⟩ (.slice A1 L1.length k1)).setCell ⟨gx, 1, none⟩ (.slice A2 L2.length k2)).setCell ⟨gx, 2, none⟩ (.slice A3 L3.length k3)) gx 26 #[.slice A1 L1.length k1, .slice A2 L2.length k2, .slice A3 L3.length k3, .slice none 0 0] := P2.put 2 _
          have P4 : Blk ((((w'.setCell ⟨gx, 0, none⟩ (.slice A1 L1.length k1)).setCell ⟨gx, 1, none⟩ (.slice A2 L2.length k2)).setCell ⟨gx, 2, none⟩ (.slice A3 L3.length k3)).setCell ⟨gx, 3, none⟩ (.slice none 0 0)) gx 26 #[.slice A1 L1.length k1, .slice A2 L2.length k2, .slice A3 L3.length k3, .slice none 0 0] := P3.put 3 _
          have b6 : Below wr.heap.size wr ((((w'.setCell ⟨gx, 0, none⟩ (.slice A1 L1.length k1)).setCell ⟨gx, 1, none⟩ (.slice A2 L2.length k2)).setCell ⟨gx, 2, none⟩ (.slice A3 L3.length k3)).setCell ⟨gx, 3, none⟩ (.slice none 0 0)) := below_puts hb lx _ _ _ _
          have N6 := (NoteAt.mk (n := ⟨L1, L2, L3, []⟩) O.out.1 O.out.2.1 O.out.2.2 OneW.nil : NoteAt w' A1 A2 A3 none k1 k2 k3 0 ⟨L1, L2, L3, []⟩).puts qx ⟨rfl, rfl, rfl, rfl⟩ (.slice A1 L1.length k1) (.slice A2 L2.length k2) (.slice A3 L3.length k3) (.slice none 0 0) ⟨rfl, rfl, rfl⟩
          obtain ⟨w6, hw6⟩ : ∃ w6, (((w'.setCell ⟨gx, 0, none⟩ (.slice A1 L1.length k1)).setCell ⟨gx, 1, none⟩ (.slice A2 L2.length k2)).setCell ⟨gx, 2, none⟩ (.slice A3 L3.length k3)).setCell ⟨gx, 3, none⟩ (.slice none 0 0) = w6 := ⟨_, rfl⟩
          rw [hw6] at P4 b6 N6 ⊢
          clear hw6 P1 P2 P3 qx z0 z1 z2 z3 r0 r1 r2 r3 O hb
          obtain ⟨inX, hinX⟩ : ∃ f, Sp.inL L3 = f := ⟨_, rfl⟩
          have S3 := set_any A3 k3 L3 w6 N6.hb.len N6.hb.stamps
          rw [hinX] at S3
          have HIX := Lib.hid hinX
          clear hinX
          refine S3.mono ?_
          rintro e w7 ⟨rfl, b7⟩
          have hT0 := Blk.new w7 69 (Sp.arr fun _ => false)
          rw [← marks_zero] at hT0
          have hT1 := hT0.row (Sp.arr inX)
          have bt := below_setRow (below_new (Below.refl w7.heap.size w7) (.cells Try.zeroCells69 69)) (Nat.le_refl _) (Sp.arr inX)
          have b67 := below_on b7 bt
          have HX := Lib.hid (P4.later b67)
          have HNX := Lib.hid (N6.later b67)
          have HSB := Lib.hid hT1
          have hgx := P4.lt
          have hz7 := b7.size
          have bbw := below_on (below_on bb2 hbw) (below_on b6 b67)
          clear hT1 P4 N6 S3
          go_wp2_with (refine wpList_store_row rfl 69 _ _ rfl w7.heap.size (Sp.arr inX) rfl rfl 69 Try.zeroCells69 hT0 (by rw [Sp.arr_size]; exact info256) (by rw [marks_zero, Sp.arr_size, Sp.arr_size]) (one_marks _) ?_)
          obtain ⟨w8, hw8⟩ : ∃ w8, (w7.alloc (.cells Try.zeroCells69 69)).setRow w7.heap.size (Sp.arr inX) = w8 := ⟨_, rfl⟩
          rw [hw8] at HX HNX HSB bbw ⊢
          have hWx : W.heap.size ≤ gx := by have := (below_on bb2 hbw).size; omega
          have hW2 : w.heap.size + 2 < W.heap.size := HB2.out.lt
          have HB08 := Lib.hid ((show Blk W w.heap.size 26 (noteCells S E B V cs ce cb cv n) from HB0.out).later bbw)
          have HB18 := Lib.hid ((show Blk W (w.heap.size + 1) 26 (noteCells S' E' B' V' cs' ce' cb' cv' m) from HB1.out).later bbw)
          have HB28 := Lib.hid (HB2.out.later bbw)
          have HV8 := Lib.hid (HN.out.hv.later bbw)
          have HV8' := Lib.hid (HM.out.hv.later bbw)
          have hbw8 := below_on hb0 bbw
          have hSBl : w7.heap.size < w8.heap.size := HSB.out.lt
          have hsl : Hid (∀ x ∈ (#[.slice A1 L1.length k1, .slice A2 L2.length k2, .slice A3 L3.length k3, .slice none 0 0] : Array Value).toList, isInt x = false) := Lib.hid (by intro x hx; simp at hx; rcases hx with rfl | rfl | rfl | rfl <;> rfl)
          have hgx7 : gx < w7.heap.size := by omega
          clear hw8 hT0 bt b67 b7 b6 hgx e1 e2 f1 f2 c0 c1 c2 c3 d0 d1 d2 d3 p0 p1 p2 HN HM HB0 HB1 HB2 HC HE HG6 HG7 HG8 HW
          go_loopw [12] (fun s12 wr => ∃ (k : Nat) (v : Value), k ≤ 256 ∧ s12 = .int .i64 (k : Int) ∧ Blk wr gx 26 #[.slice A1 L1.length k1, .slice A2 L2.length k2, .slice A3 L3.length k3, v] ∧ wr.ownsRow w8.heap.size 35 4 v (Nt.mergedTo n m L3 k).length (Nt.wrCells (Nt.mergedTo n m L3 k)) ∧ But gx gx w8 wr ∧ Below w.heap.size w wr) (fun s12 _ => 256 - (intOf s12).toNat)
          case atStart =>
            exact ⟨0, .slice none 0 0, Nat.zero_le _, rfl, HX.out, ⟨rfl, .inl ⟨rfl, rfl⟩⟩, But.refl _ _ _, hbw8⟩
          case round =>
            obtain ⟨k, vk, hk, rfl, hG, hown, hbut, hbw9⟩ := hrel
            by_cases hlt : k < 256
            · have e3 := (hbut.blk HB08.out (by omega) (by omega)).cell (i := 3) rfl
              have f3 := (hbut.blk HB18.out (by omega) (by omega)).cell (i := 3) rfl
              have xM := (hbut.blk HSB.out (by omega) (by omega)).marks_cell k hlt
              have hv := HV8.out.but hbut HX.out hsl.out HX.out hsl.out
              have hv' := HV8'.out.but hbut HX.out hsl.out HX.out hsl.out
              obtain ⟨⟨y, yo⟩, hy⟩ : ∃ r, Nt.at_ n.ws (k : Int) = r := ⟨_, rfl⟩
              obtain ⟨⟨x, xo⟩, hx⟩ : ∃ r, Nt.at_ m.ws (k : Int) = r := ⟨_, rfl⟩
              have na := nat_any V cv n.ws (k : Int) wr hv
              rw [hy] at na
              have NA := Lib.hid (show Calls Try.prog 52 #[.slice V n.ws.length cv, .int .i64 (k : Int)] wr (Says (.tuple #[.agg #[.int .i64 y.1, .int .i64 y.2.1, .int .i64 y.2.2.1, .bool y.2.2.2], .bool yo]) wr) from na)
              have nb := fun wx (hb : Below wr.heap.size wr wx) => nat_any V' cv' m.ws (k : Int) wx (hv'.later hb)
              rw [hx] at nb
              have NB := Lib.hid (fun wx (hb : Below wr.heap.size wr wx) => (show Calls Try.prog 52 #[.slice V' m.ws.length cv', .int .i64 (k : Int)] wx (Says (.tuple #[.agg #[.int .i64 x.1, .int .i64 x.2.1, .int .i64 x.2.2.1, .bool x.2.2.2], .bool xo]) wx) from nb wx hb))
              have HG := Lib.hid hG
              have HOW := Lib.hid hown
              have HBT := Lib.hid hbut
              have hb8 := hbut.1
              have hj0 : (0 : Int) ≤ (k : Int) := by omega
              have hj1 : (k : Int) < 256 := by omega
              clear na nb hv hv' hG hown hbut
              go_wp2_with fail
              refine NA.out.mono ?_
              rintro e w1 ⟨rfl, b1⟩
              have bA := below_new b1 (.cells #[.int .i64 y.1, .int .i64 y.2.1, .int .i64 y.2.2.1, .bool y.2.2.2] 35)
              have hz1 := b1.size
              have g3 := cell_later bA f3
              clear e3
              go_wp2_with fail
              refine (NB.out _ bA).mono ?_
              rintro e w2 ⟨rfl, b2⟩
              have bB := below_new (below_on bA b2) (.cells #[.int .i64 x.1, .int .i64 x.2.1, .int .i64 x.2.2.1, .bool x.2.2.2] 35)
              have hz2 : w1.heap.size + 1 ≤ w2.heap.size := by have := b2.size; simpa using this
              have h13 : Blk (w2.alloc (.cells #[.int .i64 x.1, .int .i64 x.2.1, .int .i64 x.2.2.1, .bool x.2.2.2] 35)) w1.heap.size 35 (Nt.wrArr y) := ((Blk.new w1 35 (Nt.wrArr y)).later b2).alloc _
              have h15 : Blk (w2.alloc (.cells #[.int .i64 x.1, .int .i64 x.2.1, .int .i64 x.2.2.1, .bool x.2.2.2] 35)) w2.heap.size 35 (Nt.wrArr x) := Blk.new w2 35 (Nt.wrArr x)
              clear NA NB f3 g3
              cases xo with
              | false =>
                cases yo with
                | false =>
                  have bz := bB
                  have hP : Blk (w2.alloc (.cells #[.int .i64 x.1, .int .i64 x.2.1, .int .i64 x.2.2.1, .bool x.2.2.2] 35)) w1.heap.size 35 (Nt.wrArr y) := h13
                  have hpk : Nt.pick n m k = (y, false) := by
                    unfold Nt.pick
                    rw [hy, hx]
                    rfl
                  have xB := cell_later bz xM
                  clear hP
                  have HK := Lib.hid (Nt.merged_none (bl := L3) hpk)
                  have HGZ := Lib.hid (HG.out.later bz)
                  have HOZ := Lib.hid (own_later HOW.out bz)
                  have hbz := HBT.out.below bz
                  have hwz := below_on hbw9 bz
                  clear HG HOW HBT
                  go_wp2_with fail
                  go_roundw
                  case rel => exact ⟨k + 1, vk, by omega, by go_num, HGZ.out, by rw [HK.out]; exact HOZ.out, hbz, hwz⟩
                  case measure => simp [intOf]; omega
                | true =>
                  have bz := bB
                  have hP : Blk (w2.alloc (.cells #[.int .i64 x.1, .int .i64 x.2.1, .int .i64 x.2.2.1, .bool x.2.2.2] 35)) w1.heap.size 35 (Nt.wrArr y) := h13
                  have hpk : Nt.pick n m k = (y, true) := by
                    unfold Nt.pick
                    rw [hy, hx]
                    rfl
                  have xB := cell_later bz xM
                  obtain ⟨⟨p0, p1, p2, p3⟩, s0, s1, s2, s3⟩ := wr_cells hP
                  clear hP
                  cases hin : inX k
                  · rw [hin] at xB
                    have hi : Sp.inL L3 k = false := by rw [HIX.out]; exact hin
                    clear hin
                    have HK := Lib.hid (Nt.merged_yes hpk hi)
                    have hsz : ((w2.alloc (.cells #[.int .i64 x.1, .int .i64 x.2.1, .int .i64 x.2.2.1, .bool x.2.2.2] 35))).heap.size = (w2.heap.size + 1) := by simp
                    have bz2 := below_new bz (.cells #[.int .i64 y.1, .int .i64 y.2.1, .int .i64 y.2.2.1, .bool y.2.2.2] 35)
                    have hown' := own_later HOW.out bz2
                    have hy1 : Lies (((w2.alloc (.cells #[.int .i64 x.1, .int .i64 x.2.1, .int .i64 x.2.2.1, .bool x.2.2.2] 35))).alloc (.cells #[.int .i64 y.1, .int .i64 y.2.1, .int .i64 y.2.2.1, .bool y.2.2.2] 35)) (some ⟨(w2.heap.size + 1), 0, none⟩) (Nt.wrCells [y]) := fun _ => ⟨(w2.heap.size + 1), 0, rfl, fun j u hu => by
                      rw [Nat.zero_add, ← hsz]
                      exact (Blk.new ((w2.alloc (.cells #[.int .i64 x.1, .int .i64 x.2.1, .int .i64 x.2.2.1, .bool x.2.2.2] 35))) 35 #[.int .i64 y.1, .int .i64 y.2.1, .int .i64 y.2.2.1, .bool y.2.2.2]).cell (by simpa [Nt.wrCells, Nt.wrCell] using hu)⟩
                    have z3 := cell_later bz (HG.out.cell (i := 3) rfl)
                    have hGw := HG.out.later bz2
                    have hbutw := HBT.out.below bz2
                    have hwz := below_on hbw9 bz2
                    have hszw := hbutw.1
                    have hkl := Nt.mergedTo_len n m L3 k
                    obtain ⟨K, hKK⟩ : ∃ K, Nt.mergedTo n m L3 k = K := ⟨_, rfl⟩
                    rw [hKK] at hown' hkl HK
                    clear HG HOW HBT hKK
                    go_wp2_with (at_builtin; refine Go.Proofs.Ytoaclofobfaflaa.wpList_append_lies _ rfl _ _ 24 rfl w8.heap.size 35 i0 (.agg #[.int .i64 0, .int .i64 0, .int .i64 0, .bool false]) 4 32 Try.underlying24 hI hZ0 hZ1 hZ2 rfl (by decide) _ K.length (Nt.wrCells K) rfl hown' (some ⟨(w2.heap.size + 1), 0, none⟩) 1 1 (fun h => by cases h) (Nt.wrCells [y]) rfl rfl hy1 (Nt.wrCells_one _) ?h63 ?hbytes hszw ?_)
                    case h63 => show K.length + 1 ≤ (9223372036854775807 : Nat); omega
                    case hbytes => omega
                    intro v' wz hownz hgz _
                    have hsg := hgz.size
                    have GZ : Blk wz gx 26 #[.slice A1 L1.length k1, .slice A2 L2.length k2, .slice A3 L3.length k3, vk] := (hgz.block gx hGw.lt (fun e => by have := own_ge hown' _ e.symm; omega)).trans hGw
                    have butz := hbutw.grown hgz hsg (fun r e => own_ge hown' r e)
                    have bwz : Below w.heap.size w wz := hwz.grown hgz (by omega) (fun r e => by have := own_ge hown' r e; omega)
                    rw [← Nt.wrCells_append, show K.length + 1 = (K ++ [y]).length from by simp, ← HK.out] at hownz
                    have zz := GZ.cell (i := 3) rfl
                    have rz := GZ.free 3
                    have G7 : ∀ u, Blk (wz.setCell ⟨gx, 3, none⟩ u) gx 26 #[.slice A1 L1.length k1, .slice A2 L2.length k2, .slice A3 L3.length k3, u] := fun u => GZ.put 3 u
                    have O7 : ∀ u, (wz.setCell ⟨gx, 3, none⟩ u).ownsRow w8.heap.size 35 4 v' (Nt.mergedTo n m L3 (k + 1)).length (Nt.wrCells (Nt.mergedTo n m L3 (k + 1))) := fun u => own_stays hownz (fun r hr => Below.heap_setCell wz ⟨gx, 3, none⟩ u r (by have := own_ge hownz r hr; show r ≠ gx; omega))
                    have HQ := Lib.hid (And.intro G7 O7)
                    obtain ⟨gv, capv, rfl⟩ := own_len hownz (by rw [HK.out]; simp)
                    have b7z := fun u => butz.setA 3 u
                    have c7z := fun u => bwz.setCell (p := ⟨gx, 3, none⟩) (by show w.heap.size ≤ gx; omega) u
                    have HQ2 := Lib.hid (And.intro b7z c7z)
                    clear GZ hownz hgz hown' hy1 hGw G7 O7 b7z c7z hbutw
                    go_wp2_with fail
                    go_roundw
                    case rel => exact ⟨k + 1, _, by omega, by go_num, HQ.out.1 _, HQ.out.2 _, HQ2.out.1 _, HQ2.out.2 _⟩
                    case measure => simp [intOf]; omega
                  · rw [hin] at xB
                    have hi : Sp.inL L3 k = true := by rw [HIX.out]; exact hin
                    clear hin
                    have HK := Lib.hid (Nt.merged_blur (a := n) (b := m) hi)
                    have HGZ := Lib.hid (HG.out.later bz)
                    have HOZ := Lib.hid (own_later HOW.out bz)
                    have hbz := HBT.out.below bz
                    have hwz := below_on hbw9 bz
                    clear HG HOW HBT
                    go_wp2_with fail
                    go_roundw
                    case rel => exact ⟨k + 1, vk, by omega, by go_num, HGZ.out, by rw [HK.out]; exact HOZ.out, hbz, hwz⟩
                    case measure => simp [intOf]; omega
              | true =>
                cases yo with
                | false =>
                  obtain ⟨⟨m0, m1, m2, m3⟩, t0, t1, t2, t3⟩ := wr_cells h13
                  obtain ⟨⟨l0, l1, l2, l3⟩, v0, v1, v2, v3⟩ := wr_cells h15
                  have bz : Below wr.heap.size wr ((((((w2.alloc (.cells #[.int .i64 x.1, .int .i64 x.2.1, .int .i64 x.2.2.1, .bool x.2.2.2] 35))).setCell ⟨w1.heap.size, 0, none⟩ (.int .i64 x.1)).setCell ⟨w1.heap.size, 1, none⟩ (.int .i64 x.2.1)).setCell ⟨w1.heap.size, 2, none⟩ (.int .i64 x.2.2.1)).setCell ⟨w1.heap.size, 3, none⟩ (.bool x.2.2.2)) := below_puts bB (by omega) _ _ _ _
                  have hP : Blk ((((((w2.alloc (.cells #[.int .i64 x.1, .int .i64 x.2.1, .int .i64 x.2.2.1, .bool x.2.2.2] 35))).setCell ⟨w1.heap.size, 0, none⟩ (.int .i64 x.1)).setCell ⟨w1.heap.size, 1, none⟩ (.int .i64 x.2.1)).setCell ⟨w1.heap.size, 2, none⟩ (.int .i64 x.2.2.1)).setCell ⟨w1.heap.size, 3, none⟩ (.bool x.2.2.2)) w1.heap.size 35 (Nt.wrArr x) := wr_puts h13 x
                  have hpk : Nt.pick n m k = (x, true) := by
                    unfold Nt.pick
                    rw [hy, hx]
                    rfl
                  have xB := cell_later bz xM
                  obtain ⟨⟨p0, p1, p2, p3⟩, s0, s1, s2, s3⟩ := wr_cells hP
                  clear hP
                  cases hin : inX k
                  · rw [hin] at xB
                    have hi : Sp.inL L3 k = false := by rw [HIX.out]; exact hin
                    clear hin
                    have HK := Lib.hid (Nt.merged_yes hpk hi)
                    have hsz : (((((((w2.alloc (.cells #[.int .i64 x.1, .int .i64 x.2.1, .int .i64 x.2.2.1, .bool x.2.2.2] 35))).setCell ⟨w1.heap.size, 0, none⟩ (.int .i64 x.1)).setCell ⟨w1.heap.size, 1, none⟩ (.int .i64 x.2.1)).setCell ⟨w1.heap.size, 2, none⟩ (.int .i64 x.2.2.1)).setCell ⟨w1.heap.size, 3, none⟩ (.bool x.2.2.2))).heap.size = (w2.heap.size + 1) := by simp
                    have bz2 := below_new bz (.cells #[.int .i64 x.1, .int .i64 x.2.1, .int .i64 x.2.2.1, .bool x.2.2.2] 35)
                    have hown' := own_later HOW.out bz2
                    have hy1 : Lies ((((((((w2.alloc (.cells #[.int .i64 x.1, .int .i64 x.2.1, .int .i64 x.2.2.1, .bool x.2.2.2] 35))).setCell ⟨w1.heap.size, 0, none⟩ (.int .i64 x.1)).setCell ⟨w1.heap.size, 1, none⟩ (.int .i64 x.2.1)).setCell ⟨w1.heap.size, 2, none⟩ (.int .i64 x.2.2.1)).setCell ⟨w1.heap.size, 3, none⟩ (.bool x.2.2.2))).alloc (.cells #[.int .i64 x.1, .int .i64 x.2.1, .int .i64 x.2.2.1, .bool x.2.2.2] 35)) (some ⟨(w2.heap.size + 1), 0, none⟩) (Nt.wrCells [x]) := fun _ => ⟨(w2.heap.size + 1), 0, rfl, fun j u hu => by
                      rw [Nat.zero_add, ← hsz]
                      exact (Blk.new (((((((w2.alloc (.cells #[.int .i64 x.1, .int .i64 x.2.1, .int .i64 x.2.2.1, .bool x.2.2.2] 35))).setCell ⟨w1.heap.size, 0, none⟩ (.int .i64 x.1)).setCell ⟨w1.heap.size, 1, none⟩ (.int .i64 x.2.1)).setCell ⟨w1.heap.size, 2, none⟩ (.int .i64 x.2.2.1)).setCell ⟨w1.heap.size, 3, none⟩ (.bool x.2.2.2))) 35 #[.int .i64 x.1, .int .i64 x.2.1, .int .i64 x.2.2.1, .bool x.2.2.2]).cell (by simpa [Nt.wrCells, Nt.wrCell] using hu)⟩
                    have z3 := cell_later bz (HG.out.cell (i := 3) rfl)
                    have hGw := HG.out.later bz2
                    have hbutw := HBT.out.below bz2
                    have hwz := below_on hbw9 bz2
                    have hszw := hbutw.1
                    have hkl := Nt.mergedTo_len n m L3 k
                    obtain ⟨K, hKK⟩ : ∃ K, Nt.mergedTo n m L3 k = K := ⟨_, rfl⟩
                    rw [hKK] at hown' hkl HK
                    clear HG HOW HBT hKK
                    go_wp2_with (at_builtin; refine Go.Proofs.Ytoaclofobfaflaa.wpList_append_lies _ rfl _ _ 24 rfl w8.heap.size 35 i0 (.agg #[.int .i64 0, .int .i64 0, .int .i64 0, .bool false]) 4 32 Try.underlying24 hI hZ0 hZ1 hZ2 rfl (by decide) _ K.length (Nt.wrCells K) rfl hown' (some ⟨(w2.heap.size + 1), 0, none⟩) 1 1 (fun h => by cases h) (Nt.wrCells [x]) rfl rfl hy1 (Nt.wrCells_one _) ?h63 ?hbytes hszw ?_)
                    case h63 => show K.length + 1 ≤ (9223372036854775807 : Nat); omega
                    case hbytes => omega
                    intro v' wz hownz hgz _
                    have hsg := hgz.size
                    have GZ : Blk wz gx 26 #[.slice A1 L1.length k1, .slice A2 L2.length k2, .slice A3 L3.length k3, vk] := (hgz.block gx hGw.lt (fun e => by have := own_ge hown' _ e.symm; omega)).trans hGw
                    have butz := hbutw.grown hgz hsg (fun r e => own_ge hown' r e)
                    have bwz : Below w.heap.size w wz := hwz.grown hgz (by omega) (fun r e => by have := own_ge hown' r e; omega)
                    rw [← Nt.wrCells_append, show K.length + 1 = (K ++ [x]).length from by simp, ← HK.out] at hownz
                    have zz := GZ.cell (i := 3) rfl
                    have rz := GZ.free 3
                    have G7 : ∀ u, Blk (wz.setCell ⟨gx, 3, none⟩ u) gx 26 #[.slice A1 L1.length k1, .slice A2 L2.length k2, .slice A3 L3.length k3, u] := fun u => GZ.put 3 u
                    have O7 : ∀ u, (wz.setCell ⟨gx, 3, none⟩ u).ownsRow w8.heap.size 35 4 v' (Nt.mergedTo n m L3 (k + 1)).length (Nt.wrCells (Nt.mergedTo n m L3 (k + 1))) := fun u => own_stays hownz (fun r hr => Below.heap_setCell wz ⟨gx, 3, none⟩ u r (by have := own_ge hownz r hr; show r ≠ gx; omega))
                    have HQ := Lib.hid (And.intro G7 O7)
                    obtain ⟨gv, capv, rfl⟩ := own_len hownz (by rw [HK.out]; simp)
                    have b7z := fun u => butz.setA 3 u
                    have c7z := fun u => bwz.setCell (p := ⟨gx, 3, none⟩) (by show w.heap.size ≤ gx; omega) u
                    have HQ2 := Lib.hid (And.intro b7z c7z)
                    clear GZ hownz hgz hown' hy1 hGw G7 O7 b7z c7z hbutw
                    go_wp2_with fail
                    go_roundw
                    case rel => exact ⟨k + 1, _, by omega, by go_num, HQ.out.1 _, HQ.out.2 _, HQ2.out.1 _, HQ2.out.2 _⟩
                    case measure => simp [intOf]; omega
                  · rw [hin] at xB
                    have hi : Sp.inL L3 k = true := by rw [HIX.out]; exact hin
                    clear hin
                    have HK := Lib.hid (Nt.merged_blur (a := n) (b := m) hi)
                    have HGZ := Lib.hid (HG.out.later bz)
                    have HOZ := Lib.hid (own_later HOW.out bz)
                    have hbz := HBT.out.below bz
                    have hwz := below_on hbw9 bz
                    clear HG HOW HBT
                    go_wp2_with fail
                    go_roundw
                    case rel => exact ⟨k + 1, vk, by omega, by go_num, HGZ.out, by rw [HK.out]; exact HOZ.out, hbz, hwz⟩
                    case measure => simp [intOf]; omega
                | true =>
                  obtain ⟨c, hc⟩ : ∃ c, St.cmpS y.1 y.2.1 x.1 x.2.1 = c := ⟨_, rfl⟩
                  obtain ⟨⟨m0, m1, m2, m3⟩, t0, t1, t2, t3⟩ := wr_cells h13
                  obtain ⟨⟨l0, l1, l2, l3⟩, v0, v1, v2, v3⟩ := wr_cells h15
                  go_wp2_with fail
                  refine (rcompare_any y.1 y.2.1 x.1 x.2.1 _).mono ?_
                  rintro e w3 ⟨rfl, b3⟩
                  have bC := below_on bB b3
                  replace h13 := h13.later b3
                  replace h15 := h15.later b3
                  rw [hc]
                  clear m0 m1 m2 m3 t0 t1 t2 t3 l0 l1 l2 l3 v0 v1 v2 v3
                  obtain ⟨⟨m0, m1, m2, m3⟩, t0, t1, t2, t3⟩ := wr_cells h13
                  obtain ⟨⟨l0, l1, l2, l3⟩, v0, v1, v2, v3⟩ := wr_cells h15
                  by_cases hneg : c < 0
                  · have dn : decide (c < 0) = true := decide_eq_true hneg
                    have bz : Below wr.heap.size wr (((((w3).setCell ⟨w1.heap.size, 0, none⟩ (.int .i64 x.1)).setCell ⟨w1.heap.size, 1, none⟩ (.int .i64 x.2.1)).setCell ⟨w1.heap.size, 2, none⟩ (.int .i64 x.2.2.1)).setCell ⟨w1.heap.size, 3, none⟩ (.bool x.2.2.2)) := below_puts bC (by omega) _ _ _ _
                    have hP : Blk (((((w3).setCell ⟨w1.heap.size, 0, none⟩ (.int .i64 x.1)).setCell ⟨w1.heap.size, 1, none⟩ (.int .i64 x.2.1)).setCell ⟨w1.heap.size, 2, none⟩ (.int .i64 x.2.2.1)).setCell ⟨w1.heap.size, 3, none⟩ (.bool x.2.2.2)) w1.heap.size 35 (Nt.wrArr x) := wr_puts h13 x
                    have hpk : Nt.pick n m k = (x, true) := by
                      unfold Nt.pick
                      rw [hy, hx]
                      simp only [hc, hneg]; rfl
                    have xB := cell_later bz xM
                    obtain ⟨⟨p0, p1, p2, p3⟩, s0, s1, s2, s3⟩ := wr_cells hP
                    clear hP
                    cases hin : inX k
                    · rw [hin] at xB
                      have hi : Sp.inL L3 k = false := by rw [HIX.out]; exact hin
                      clear hin
                      have HK := Lib.hid (Nt.merged_yes hpk hi)
                      have hsz : ((((((w3).setCell ⟨w1.heap.size, 0, none⟩ (.int .i64 x.1)).setCell ⟨w1.heap.size, 1, none⟩ (.int .i64 x.2.1)).setCell ⟨w1.heap.size, 2, none⟩ (.int .i64 x.2.2.1)).setCell ⟨w1.heap.size, 3, none⟩ (.bool x.2.2.2))).heap.size = w3.heap.size := by simp
                      have bz2 := below_new bz (.cells #[.int .i64 x.1, .int .i64 x.2.1, .int .i64 x.2.2.1, .bool x.2.2.2] 35)
                      have hown' := own_later HOW.out bz2
                      have hy1 : Lies (((((((w3).setCell ⟨w1.heap.size, 0, none⟩ (.int .i64 x.1)).setCell ⟨w1.heap.size, 1, none⟩ (.int .i64 x.2.1)).setCell ⟨w1.heap.size, 2, none⟩ (.int .i64 x.2.2.1)).setCell ⟨w1.heap.size, 3, none⟩ (.bool x.2.2.2))).alloc (.cells #[.int .i64 x.1, .int .i64 x.2.1, .int .i64 x.2.2.1, .bool x.2.2.2] 35)) (some ⟨w3.heap.size, 0, none⟩) (Nt.wrCells [x]) := fun _ => ⟨w3.heap.size, 0, rfl, fun j u hu => by
                        rw [Nat.zero_add, ← hsz]
                        exact (Blk.new ((((((w3).setCell ⟨w1.heap.size, 0, none⟩ (.int .i64 x.1)).setCell ⟨w1.heap.size, 1, none⟩ (.int .i64 x.2.1)).setCell ⟨w1.heap.size, 2, none⟩ (.int .i64 x.2.2.1)).setCell ⟨w1.heap.size, 3, none⟩ (.bool x.2.2.2))) 35 #[.int .i64 x.1, .int .i64 x.2.1, .int .i64 x.2.2.1, .bool x.2.2.2]).cell (by simpa [Nt.wrCells, Nt.wrCell] using hu)⟩
                      have z3 := cell_later bz (HG.out.cell (i := 3) rfl)
                      have hGw := HG.out.later bz2
                      have hbutw := HBT.out.below bz2
                      have hwz := below_on hbw9 bz2
                      have hszw := hbutw.1
                      have hkl := Nt.mergedTo_len n m L3 k
                      obtain ⟨K, hKK⟩ : ∃ K, Nt.mergedTo n m L3 k = K := ⟨_, rfl⟩
                      rw [hKK] at hown' hkl HK
                      clear HG HOW HBT hKK
                      go_wp2_with (at_builtin; refine Go.Proofs.Ytoaclofobfaflaa.wpList_append_lies _ rfl _ _ 24 rfl w8.heap.size 35 i0 (.agg #[.int .i64 0, .int .i64 0, .int .i64 0, .bool false]) 4 32 Try.underlying24 hI hZ0 hZ1 hZ2 rfl (by decide) _ K.length (Nt.wrCells K) rfl hown' (some ⟨w3.heap.size, 0, none⟩) 1 1 (fun h => by cases h) (Nt.wrCells [x]) rfl rfl hy1 (Nt.wrCells_one _) ?h63 ?hbytes hszw ?_)
                      case h63 => show K.length + 1 ≤ (9223372036854775807 : Nat); omega
                      case hbytes => omega
                      intro v' wz hownz hgz _
                      have hsg := hgz.size
                      have GZ : Blk wz gx 26 #[.slice A1 L1.length k1, .slice A2 L2.length k2, .slice A3 L3.length k3, vk] := (hgz.block gx hGw.lt (fun e => by have := own_ge hown' _ e.symm; omega)).trans hGw
                      have butz := hbutw.grown hgz hsg (fun r e => own_ge hown' r e)
                      have bwz : Below w.heap.size w wz := hwz.grown hgz (by omega) (fun r e => by have := own_ge hown' r e; omega)
                      rw [← Nt.wrCells_append, show K.length + 1 = (K ++ [x]).length from by simp, ← HK.out] at hownz
                      have zz := GZ.cell (i := 3) rfl
                      have rz := GZ.free 3
                      have G7 : ∀ u, Blk (wz.setCell ⟨gx, 3, none⟩ u) gx 26 #[.slice A1 L1.length k1, .slice A2 L2.length k2, .slice A3 L3.length k3, u] := fun u => GZ.put 3 u
                      have O7 : ∀ u, (wz.setCell ⟨gx, 3, none⟩ u).ownsRow w8.heap.size 35 4 v' (Nt.mergedTo n m L3 (k + 1)).length (Nt.wrCells (Nt.mergedTo n m L3 (k + 1))) := fun u => own_stays hownz (fun r hr => Below.heap_setCell wz ⟨gx, 3, none⟩ u r (by have := own_ge hownz r hr; show r ≠ gx; omega))
                      have HQ := Lib.hid (And.intro G7 O7)
                      obtain ⟨gv, capv, rfl⟩ := own_len hownz (by rw [HK.out]; simp)
                      have b7z := fun u => butz.setA 3 u
                      have c7z := fun u => bwz.setCell (p := ⟨gx, 3, none⟩) (by show w.heap.size ≤ gx; omega) u
                      have HQ2 := Lib.hid (And.intro b7z c7z)
                      clear GZ hownz hgz hown' hy1 hGw G7 O7 b7z c7z hbutw
                      go_wp2_with fail
                      go_roundw
                      case rel => exact ⟨k + 1, _, by omega, by go_num, HQ.out.1 _, HQ.out.2 _, HQ2.out.1 _, HQ2.out.2 _⟩
                      case measure => simp [intOf]; omega
                    · rw [hin] at xB
                      have hi : Sp.inL L3 k = true := by rw [HIX.out]; exact hin
                      clear hin
                      have HK := Lib.hid (Nt.merged_blur (a := n) (b := m) hi)
                      have HGZ := Lib.hid (HG.out.later bz)
                      have HOZ := Lib.hid (own_later HOW.out bz)
                      have hbz := HBT.out.below bz
                      have hwz := below_on hbw9 bz
                      clear HG HOW HBT
                      go_wp2_with fail
                      go_roundw
                      case rel => exact ⟨k + 1, vk, by omega, by go_num, HGZ.out, by rw [HK.out]; exact HOZ.out, hbz, hwz⟩
                      case measure => simp [intOf]; omega
                  · have dn : decide (c < 0) = false := decide_eq_false hneg
                    have bz := bC
                    have hP : Blk w3 w1.heap.size 35 (Nt.wrArr y) := h13
                    have hpk : Nt.pick n m k = (y, true) := by
                      unfold Nt.pick
                      rw [hy, hx]
                      simp only [hc, hneg]; rfl
                    have xB := cell_later bz xM
                    obtain ⟨⟨p0, p1, p2, p3⟩, s0, s1, s2, s3⟩ := wr_cells hP
                    clear hP
                    cases hin : inX k
                    · rw [hin] at xB
                      have hi : Sp.inL L3 k = false := by rw [HIX.out]; exact hin
                      clear hin
                      have HK := Lib.hid (Nt.merged_yes hpk hi)
                      have hsz : (w3).heap.size = w3.heap.size := by simp
                      have bz2 := below_new bz (.cells #[.int .i64 y.1, .int .i64 y.2.1, .int .i64 y.2.2.1, .bool y.2.2.2] 35)
                      have hown' := own_later HOW.out bz2
                      have hy1 : Lies ((w3).alloc (.cells #[.int .i64 y.1, .int .i64 y.2.1, .int .i64 y.2.2.1, .bool y.2.2.2] 35)) (some ⟨w3.heap.size, 0, none⟩) (Nt.wrCells [y]) := fun _ => ⟨w3.heap.size, 0, rfl, fun j u hu => by
                        rw [Nat.zero_add, ← hsz]
                        exact (Blk.new (w3) 35 #[.int .i64 y.1, .int .i64 y.2.1, .int .i64 y.2.2.1, .bool y.2.2.2]).cell (by simpa [Nt.wrCells, Nt.wrCell] using hu)⟩
                      have z3 := cell_later bz (HG.out.cell (i := 3) rfl)
                      have hGw := HG.out.later bz2
                      have hbutw := HBT.out.below bz2
                      have hwz := below_on hbw9 bz2
                      have hszw := hbutw.1
                      have hkl := Nt.mergedTo_len n m L3 k
                      obtain ⟨K, hKK⟩ : ∃ K, Nt.mergedTo n m L3 k = K := ⟨_, rfl⟩
                      rw [hKK] at hown' hkl HK
                      clear HG HOW HBT hKK
                      go_wp2_with (at_builtin; refine Go.Proofs.Ytoaclofobfaflaa.wpList_append_lies _ rfl _ _ 24 rfl w8.heap.size 35 i0 (.agg #[.int .i64 0, .int .i64 0, .int .i64 0, .bool false]) 4 32 Try.underlying24 hI hZ0 hZ1 hZ2 rfl (by decide) _ K.length (Nt.wrCells K) rfl hown' (some ⟨w3.heap.size, 0, none⟩) 1 1 (fun h => by cases h) (Nt.wrCells [y]) rfl rfl hy1 (Nt.wrCells_one _) ?h63 ?hbytes hszw ?_)
                      case h63 => show K.length + 1 ≤ (9223372036854775807 : Nat); omega
                      case hbytes => omega
                      intro v' wz hownz hgz _
                      have hsg := hgz.size
                      have GZ : Blk wz gx 26 #[.slice A1 L1.length k1, .slice A2 L2.length k2, .slice A3 L3.length k3, vk] := (hgz.block gx hGw.lt (fun e => by have := own_ge hown' _ e.symm; omega)).trans hGw
                      have butz := hbutw.grown hgz hsg (fun r e => own_ge hown' r e)
                      have bwz : Below w.heap.size w wz := hwz.grown hgz (by omega) (fun r e => by have := own_ge hown' r e; omega)
                      rw [← Nt.wrCells_append, show K.length + 1 = (K ++ [y]).length from by simp, ← HK.out] at hownz
                      have zz := GZ.cell (i := 3) rfl
                      have rz := GZ.free 3
                      have G7 : ∀ u, Blk (wz.setCell ⟨gx, 3, none⟩ u) gx 26 #[.slice A1 L1.length k1, .slice A2 L2.length k2, .slice A3 L3.length k3, u] := fun u => GZ.put 3 u
                      have O7 : ∀ u, (wz.setCell ⟨gx, 3, none⟩ u).ownsRow w8.heap.size 35 4 v' (Nt.mergedTo n m L3 (k + 1)).length (Nt.wrCells (Nt.mergedTo n m L3 (k + 1))) := fun u => own_stays hownz (fun r hr => Below.heap_setCell wz ⟨gx, 3, none⟩ u r (by have := own_ge hownz r hr; show r ≠ gx; omega))
                      have HQ := Lib.hid (And.intro G7 O7)
                      obtain ⟨gv, capv, rfl⟩ := own_len hownz (by rw [HK.out]; simp)
                      have b7z := fun u => butz.setA 3 u
                      have c7z := fun u => bwz.setCell (p := ⟨gx, 3, none⟩) (by show w.heap.size ≤ gx; omega) u
                      have HQ2 := Lib.hid (And.intro b7z c7z)
                      clear GZ hownz hgz hown' hy1 hGw G7 O7 b7z c7z hbutw
                      go_wp2_with fail
                      go_roundw
                      case rel => exact ⟨k + 1, _, by omega, by go_num, HQ.out.1 _, HQ.out.2 _, HQ2.out.1 _, HQ2.out.2 _⟩
                      case measure => simp [intOf]; omega
                    · rw [hin] at xB
                      have hi : Sp.inL L3 k = true := by rw [HIX.out]; exact hin
                      clear hin
                      have HK := Lib.hid (Nt.merged_blur (a := n) (b := m) hi)
                      have HGZ := Lib.hid (HG.out.later bz)
                      have HOZ := Lib.hid (own_later HOW.out bz)
                      have hbz := HBT.out.below bz
                      have hwz := below_on hbw9 bz
                      clear HG HOW HBT
                      go_wp2_with fail
                      go_roundw
                      case rel => exact ⟨k + 1, vk, by omega, by go_num, HGZ.out, by rw [HK.out]; exact HOZ.out, hbz, hwz⟩
                      case measure => simp [intOf]; omega
            · have hkl : k = 256 := by omega
              subst hkl
              have HG := Lib.hid hG
              obtain ⟨A7, k7, hvk, hO7⟩ := OneW.of_own hown
              subst hvk
              obtain ⟨kw, hkw⟩ : ∃ kw, Nt.mergedTo n m L3 256 = kw := ⟨_, rfl⟩
              rw [hkw] at hO7 HG HT2
              have R6 := hbut.blk HB28.out (by omega) (by omega)
              have N6 : NoteAt wr A1 A2 A3 A7 k1 k2 k3 k7 ⟨L1, L2, L3, kw⟩ := ⟨HNX.out.hs.but hbut HX.out hsl.out HX.out hsl.out, HNX.out.he.but hbut HX.out hsl.out HX.out hsl.out, HNX.out.hb.but hbut HX.out hsl.out HX.out hsl.out, hO7⟩
              have G7' : Blk wr gx 26 (noteCells A1 A2 A3 A7 k1 k2 k3 k7 ⟨L1, L2, L3, kw⟩) := HG.out
              obtain ⟨y0, y1, y2, y3⟩ := note_cells G7'
              obtain ⟨⟨q0, q1, q2, q3⟩, s0, s1, s2, s3⟩ := nt_cells R6
              have N8 := N6.puts R6 ⟨rfl, rfl, rfl, rfl⟩ (.slice A1 L1.length k1) (.slice A2 L2.length k2) (.slice A3 L3.length k3) (.slice A7 kw.length k7) ⟨rfl, rfl, rfl⟩
              have HN8 := Lib.hid N8
              have HR6 := Lib.hid R6
              clear N6 N8 R6 G7' HG hO7 hown hG hbut
              go_wp2
              refine bodyPost_ret (results_cell_tmp (p := 4) (t1 := 5) (ty := 26) rfl _ _ (w.heap.size + 2) 26 (noteCells A1 A2 A3 A7 k1 k2 k3 k7 ⟨L1, L2, L3, kw⟩) _ rfl (nt_puts HR6.out A1 A2 A3 A7 k1 k2 k3 k7 ⟨L1, L2, L3, kw⟩) Try.underlying26 rfl infoNt) rfl ?_
              rw [HT2.out]
              exact ⟨_, _, _, _, _, _, _, _, rfl, HN8.out, below_puts hbw9 (by omega) _ _ _ _⟩

end Go.Proofs.Ytoaclofobfaflaa
