/-
  What telltaleref03's Formed, Has, Size and Some answer.
-/
import Derived.Test.YtnnmcnbpnfegpaaSpRefLists
import Derived.Test.YtnnmcnbpnfegpaaMany
namespace Go.Proofs.Ytnnmcnbpnfegpaa
open Go.RowKit

theorem GivesS.one {l : List (Int × Int)} {w w' : World} {e : Ending} (h : GivesS l w e w') : ∃ A c, e = .returned (.slice A l.length c) ∧ OneL w' A c l ∧ Below w.heap.size w w' := by
  obtain ⟨v, rfl, ho, hb⟩ := h
  obtain ⟨A, c, rfl, h1⟩ := OneL.of_own ho
  exact ⟨A, c, rfl, h1, hb⟩

set_option maxHeartbeats 800000 in
theorem sformed_any (A : Option Addr) (c : Nat) (l : List (Int × Int)) (w : World) (h1 : OneL w A c l) :
    Calls Try.prog 12 #[.slice A l.length c] w fun e w' => e = .returned (.bool (Sp.fmd l)) ∧ Below w.heap.size w w' := by
  have hl := h1.len
  by_cases hle : l.length ≤ 128
  · have hd : decide ((l.length : Int) ≤ 128) = true := decide_eq_true (by omega)
    have hf : Sp.fmd l = decide (l = Sp.ofL (Sp.inL l)) := by
      unfold Sp.fmd
      rw [Bool.eq_iff_iff, decide_eq_true_eq, decide_eq_true_eq]
      exact ⟨fun h => h.2, fun h => ⟨hle, h⟩⟩
    have hol := Sp.ofL_len (Sp.inL l)
    have n1 := set_any A c l w hl h1.stamps
    have n2 := fun wx => ofS_any (Sp.inL l) wx
    obtain ⟨m, hm⟩ : ∃ m, Sp.ofL (Sp.inL l) = m := ⟨_, rfl⟩
    obtain ⟨f, hff⟩ : ∃ f, Sp.inL l = f := ⟨_, rfl⟩
    rw [hff] at n1
    rw [hm] at n2 hf hol
    rw [hff] at n2
    have N1 := Lib.hid n1
    have N2 := Lib.hid n2
    have HF := Lib.hid hf
    have H1 := Lib.hid h1
    clear n1 n2 hf h1 hm hff
    go_enter Try.func12, Try.ntmps12
    go_wp2_with fail
    refine N1.out.mono ?_
    rintro e w1 ⟨rfl, b1⟩
    clear N1
    go_wp2_with fail
    refine (N2.out _).mono ?_
    rintro e w2 hg
    obtain ⟨B, d, rfl, ho, b2⟩ := hg.one
    have hbb := below_on b1 b2
    have hs := ssame_any A B c d l m w2 hl (H1.out.later hbb).stamps ho.stamps
    have HS := Lib.hid hs
    clear hg ho hs N2 H1
    go_wp2_with fail
    refine HS.out.mono ?_
    rintro e w3 ⟨rfl, b3⟩
    go_wp2
    go_ret
    exact ⟨by rw [HF.out]; rfl, below_on hbb b3⟩
  · have hd : decide ((l.length : Int) ≤ 128) = false := decide_eq_false (by omega)
    have hf : Sp.fmd l = false := by
      unfold Sp.fmd
      exact decide_eq_false (fun h => hle h.1)
    have HF := Lib.hid hf
    clear hf
    go_enter Try.func12, Try.ntmps12
    go_wp2
    go_ret
    exact ⟨by rw [HF.out]; rfl, Below.refl _ _⟩

/-- One of 256 marks, by its place. -/
theorem index_marks (f : Nat → Bool) (k : Nat) (hk : k < 256) (w : World) : (Instr.index 38 (.agg (Sp.arr f)) (.int .i64 (k : Int))).run Try.prog w = .ok (.bool (f k)) w := by
  have h1 := Sp.arr_get f k hk
  simp [Instr.index, asIntOf, run_underlying Try.underlying38, part, Try.isAgg4, Try.sizeOf4, h1]
  intro h
  exact absurd h (by omega)

/-- Is any number an object in a list? -/
def inOf (l : List (Int × Int)) (o : Int) : Bool := decide (0 ≤ o ∧ o ≤ 255) && Sp.inL l o.toNat

set_option maxHeartbeats 800000 in
theorem shas_any (A : Option Addr) (c : Nat) (l : List (Int × Int)) (o : Int) (w : World) (h1 : OneL w A c l) :
    Calls Try.prog 14 #[.slice A l.length c, .int .i64 o] w fun e w' => e = .returned (.bool (inOf l o)) ∧ Below w.heap.size w w' := by
  have n1 := set_any A c l w h1.len h1.stamps
  by_cases h0 : 0 ≤ o
  · have hd : decide (0 ≤ o) = true := decide_eq_true h0
    by_cases h2 : o ≤ 255
    · obtain ⟨k, rfl⟩ : ∃ k : Nat, o = (k : Int) := ⟨o.toNat, by omega⟩
      have hd2 : decide ((k : Int) ≤ 255) = true := decide_eq_true h2
      have hk : k < 256 := by omega
      have hi : inOf l (k : Int) = Sp.inL l k := by unfold inOf; rw [decide_eq_true ⟨h0, h2⟩]; rfl
      have HI := Lib.hid hi
      have hix := fun w => index_marks (Sp.inL l) k hk w
      have N1 := Lib.hid n1
      clear n1 hi
      go_enter Try.func14, Try.ntmps14
      go_wp2_with fail
      refine N1.out.mono ?_
      rintro e w1 ⟨rfl, b1⟩
      go_wp2
      go_ret
      exact ⟨by rw [HI.out]; rfl, b1⟩
    · have hd2 : decide (o ≤ 255) = false := decide_eq_false h2
      have hi : inOf l o = false := by unfold inOf; rw [decide_eq_false (fun h => h2 h.2)]; rfl
      have HI := Lib.hid hi
      clear n1 hi
      go_enter Try.func14, Try.ntmps14
      go_wp2
      go_ret
      exact ⟨by rw [HI.out]; rfl, Below.refl _ _⟩
  · have hd : decide (0 ≤ o) = false := decide_eq_false h0
    have hi : inOf l o = false := by unfold inOf; rw [decide_eq_false (fun h => h0 h.1)]; rfl
    have HI := Lib.hid hi
    clear n1 hi
    go_enter Try.func14, Try.ntmps14
    go_wp2
    go_ret
    exact ⟨by rw [HI.out]; rfl, Below.refl _ _⟩

set_option maxRecDepth 100000 in
set_option maxHeartbeats 1600000 in
theorem ssize_any (A : Option Addr) (c : Nat) (l : List (Int × Int)) (w : World) (h1 : OneL w A c l) :
    Calls Try.prog 16 #[.slice A l.length c] w fun e w' => e = .returned (.int .i64 (Sp.sz (Sp.inL l) : Int)) ∧ Below w.heap.size w w' := by
  have n1 := set_any A c l w h1.len h1.stamps
  obtain ⟨f, hff⟩ : ∃ f, Sp.inL l = f := ⟨_, rfl⟩
  rw [hff] at n1 ⊢
  have N1 := Lib.hid n1
  clear n1 hff h1
  go_enter Try.func16, Try.ntmps16
  go_wp2_with fail
  refine N1.out.mono ?_
  rintro e w1 ⟨rfl, b1⟩
  clear N1
  have hz := b1.size
  go_wp2_with (refine wpList_store_row rfl 38 _ _ rfl w1.heap.size (Sp.arr f) rfl rfl 38 (Sp.arr fun _ => false) ?s1 (by rw [Sp.arr_size]; exact info256) (by rw [Sp.arr_size, Sp.arr_size]) (one_marks _) ?_)
  case s1 =>
    rw [← marks_zero]
    exact Blk.new w1 _ _
  rw [marks_zero]
  have B5 := (Blk.new w1 38 (Sp.arr fun _ => false)).row (Sp.arr f)
  have b6 := below_setRow (below_new (below_on (Below.refl _ _) b1) (.cells (Sp.arr fun _ => false) 38)) (g := w1.heap.size) hz (Sp.arr f)
  go_loopw [4, 5] (fun s4 s5 wr => ∃ k : Nat, k ≤ 256 ∧ s5 = .int .i64 (k : Int) ∧ s4 = .int .i64 (Sp.szTo f k : Int) ∧ Blk wr w1.heap.size 38 (Sp.arr f) ∧ Below w.heap.size w wr) (fun _ s5 _ => 256 - (intOf s5).toNat)
  case atStart => exact ⟨0, by omega, rfl, rfl, B5, b6⟩
  case round =>
    obtain ⟨k, hk, rfl, rfl, hB, hbw⟩ := hrel
    clear B5 b6
    by_cases hlt : k < 256
    · have c0 := hB.marks_cell k hlt
      have hi0 : (0 : Int) ≤ (k : Int) := by omega
      have hi1 : (k : Int) < 256 := by omega
      have hsz := Sp.szTo_le f k
      have hst := Sp.szTo.eq_2 f k
      have HB := Lib.hid hB
      clear hB
      cases hp : f k
      · rw [hp] at c0 hst
        have HST := Lib.hid (hst.trans (if_neg (by simp)))
        clear hst hp
        go_wp2_with fail
        go_roundw
        case rel => exact ⟨k + 1, by omega, by go_num, by rw [HST.out], HB.out, hbw⟩
        case measure => simp [intOf]; omega
      · rw [hp] at c0 hst
        have HST := Lib.hid (hst.trans (if_pos rfl))
        clear hst hp
        have hw1 : (0 : Int) ≤ (Sp.szTo f k : Int) := by omega
        have hw2 : (Sp.szTo f k : Int) ≤ 256 := by omega
        go_wp2_with fail
        go_roundw
        case rel => exact ⟨k + 1, by omega, by go_num, by rw [HST.out]; go_num, HB.out, hbw⟩
        case measure => simp [intOf]; omega
    · have hk64 : k = 256 := by omega
      subst hk64
      clear hB
      go_wp2
      go_ret
      exact ⟨rfl, hbw⟩

end Go.Proofs.Ytnnmcnbpnfegpaa
