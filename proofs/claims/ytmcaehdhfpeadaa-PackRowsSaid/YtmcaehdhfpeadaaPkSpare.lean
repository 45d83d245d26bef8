/-
  The law's spare (bytes with a mark in the room behind them) and kept.
-/
import Derived.Test.YtmcaehdhfpeadaaPkSpec
import Derived.Laws.MakeOwn
import Derived.Test.YtmcaehdhfpeadaaOwnPut
namespace Go.Proofs.Ytmcaehdhfpeadaa
open Go.RowKit

/-- Bytes of one's own with room behind them, in which the mark stands. -/
structure Marked (w : World) (g cap : Nat) (l : List Int) : Prop where
  room : l.length + 1 ≤ cap
  cap : cap ≤ maxLen
  cells : ∀ j u, (bCells (l ++ [90]))[j]? = some u → w.cell? ⟨g, j, none⟩ = some u
  byte : ∀ x ∈ l, isB x
theorem Marked.later {w w' : World} {g cap : Nat} {l : List Int} (h : Marked w g cap l) (hb : Below w.heap.size w w') : Marked w' g cap l := ⟨h.room, h.cap, fun j u hu => cell_later hb (h.cells j u hu), h.byte⟩
theorem Marked.one {w : World} {g cap : Nat} {l : List Int} (h : Marked w g cap l) : OneB w (some ⟨g, 0, none⟩) cap l :=
  ⟨by have := h.room; omega, h.cap, (fun h => by cases h), fun _ => ⟨g, 0, rfl, fun j u hu => by
    rw [Nat.zero_add]
    refine h.cells j u ?_
    rw [bCells_append, List.getElem?_append_left (List.getElem?_eq_some_iff.1 hu).1]
    exact hu⟩, h.byte⟩
theorem Marked.mark {w : World} {g cap : Nat} {l : List Int} (h : Marked w g cap l) : w.cell? ⟨g, l.length, none⟩ = some (.int .u8 90) := by
  refine h.cells l.length _ ?_
  rw [bCells_append, List.getElem?_append_right (by rw [bCells_length]; exact Nat.le_refl _), bCells_length, Nat.sub_self]
  rfl

set_option maxHeartbeats 1600000 in
theorem spare_any (A : Option Addr) (c : Nat) (l : List Int) (w : World) (hl : l.length + 4 ≤ 140737488355328) (h : OneB w A c l) :
    Calls Try.prog 10 #[.slice A l.length c] w fun e w' => ∃ g cap, e = .returned (.slice (some ⟨g, 0, none⟩) l.length cap) ∧ Marked w' g cap l ∧ Below w.heap.size w w' := by
  obtain ⟨i0, hi, hz0, hz1, hz2⟩ := info_parts infoBy
  obtain ⟨w0, hrun, hown0, hg0⟩ := run_make_own (P := Try.prog) w w.heap.size 22 5 i0 (.int .u8 0) 1 Try.underlying22 hi hz0 hz1 .i64 .i64 (l.length + 4) (by rw [hz2]; omega) (by unfold maxLen; omega) (Nat.le_refl _)
  rw [show ((l.length + 4 : Nat) : Int) = (l.length : Int) + 4 from by omega] at hrun
  have b0 : Below w.heap.size w w0 := (Below.refl _ _).grown hg0 (Nat.le_refl _) (fun k hk => by cases hk)
  have H := Lib.hid h
  have HB := Lib.hid h.byte
  have hlen := h.len
  have hz := b0.size
  clear h hg0
  go_enter Try.func10, Try.ntmps10
  go_wp2_with (at_builtin; refine wpList_append_lies _ rfl _ _ 22 rfl w.heap.size 5 i0 (.int .u8 0) 1 1 Try.underlying22 hi hz0 hz1 hz2 rfl (by decide) _ 0 [] rfl hown0 A l.length c (H.out.later b0).noA (bCells l) rfl (by rw [bCells_length, Nat.mul_one]) (H.out.later b0).lies (bCells_one l) (by unfold maxLen; omega) (by omega) hz ?_)
  intro v1 w1 ho1 hg1 _
  have b1 : Below w.heap.size w w1 := b0.grown hg1 hz (fun k hk => own_ge hown0 _ hk)
  have ho1' : w1.ownsRow w.heap.size 5 1 v1 l.length (bCells l) := by simpa using ho1
  have hz1' := b1.size
  clear ho1 hg1 hown0 hrun
  go_wp2_with (at_builtin; refine wpList_append_lies _ rfl _ _ 22 rfl w.heap.size 5 i0 (.int .u8 0) 1 1 Try.underlying22 hi hz0 hz1 hz2 rfl (by decide) _ l.length (bCells l) rfl (ho1'.alloc _) (some ⟨w1.heap.size, 0, none⟩) 1 1 (fun h => by cases h) (bCells [90]) rfl rfl ?c1 (bCells_one _) (by unfold maxLen; omega) (by omega) ?c5 ?_)
  case c1 =>
    intro _
    refine ⟨w1.heap.size, 0, rfl, fun j u hu => ?_⟩
    rw [Nat.zero_add]
    exact (Blk.new w1 5 #[.int .u8 90]).cell (by simpa [bCells] using hu)
  case c5 => first | omega | (simp; omega)
  intro v2 w2 ho2 hg2 _
  have b2 : Below w.heap.size w w2 := (below_new b1 _).grown hg2 (by simp; omega) (fun k hk => own_ge ho1' _ hk)
  rw [← bCells_append] at ho2
  obtain ⟨g, cap, rfl⟩ := own_len ho2 (by omega)
  have hM : Marked w2 g cap l := by
    rcases ho2.2 with ⟨h1, _⟩ | ⟨g', cap', cur, h1, _, _, h4, h5, _, _⟩
    · cases h1
    · injection h1 with h1 h2 h3
      subst h3
      exact ⟨h4, h5, fun j u hu => own_cell_at ho2 hu, HB.out⟩
  have hr := hM.room
  have hcm := hM.cap
  have HM := Lib.hid hM
  have q1 : (l.length : Int) ≤ (cap : Int) := by omega
  have q2 : (0 : Int) ≤ (l.length : Int) := by omega
  clear hM ho2 hg2 ho1'
  go_wp2
  go_ret
  exact ⟨g, cap, rfl, HM.out, b2⟩

set_option maxHeartbeats 1600000 in
theorem kept_any (g cap : Nat) (B : Option Addr) (d : Nat) (l : List Int) (w : World) (hM : Marked w g cap l) (h : OneB w B d l) :
    Calls Try.prog 12 #[.slice (some ⟨g, 0, none⟩) l.length cap, .slice B l.length d] w (Says (.bool true) w) := by
  have n1 := bsame_any (some ⟨g, 0, none⟩) B cap d l l w hM.one h
  rw [decide_eq_true rfl] at n1
  have N1 := Lib.hid n1
  have hr := hM.room
  have hcm := hM.cap
  unfold maxLen at hcm
  have hmk := hM.mark
  clear n1 hM h
  have q1 : (0 : Int) ≤ (l.length : Int) + 1 := by omega
  have q2 : (l.length : Int) + 1 ≤ (cap : Int) := by omega
  have q3 : (0 : Int) ≤ (l.length : Int) := by omega
  have q4 : (l.length : Int) < (l.length : Int) + 1 := by omega
  have q5 : ((l.length : Int) + 1).toNat = l.length + 1 := by omega
  go_enter Try.func12, Try.ntmps12
  go_wp2_with fail
  refine N1.out.mono ?_
  rintro e w1 ⟨rfl, b1⟩
  have hm1 := cell_later b1 hmk
  go_wp2
  go_ret
  exact ⟨by first | rfl | simp, b1⟩

end Go.Proofs.Ytmcaehdhfpeadaa
