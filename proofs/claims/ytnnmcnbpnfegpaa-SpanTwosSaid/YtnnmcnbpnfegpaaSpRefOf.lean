/-
  What telltaleref03's Of answers of any 256 marks: the list of the set, in memory of its own.
-/
import Derived.Test.YtnnmcnbpnfegpaaSpRefSet
import Derived.Test.YtnnmcnbpnfegpaaOwnPut
import Derived.Laws.OwnMore
import Derived.OwnWalk
namespace Go.Proofs.Ytnnmcnbpnfegpaa
open Go.RowKit

theorem infoSp : (Try.prog.info? 44).map (fun i => (i.zero, i.size, i.bytes)) = some (some (.agg #[.int .i64 0, .int .i64 0]), 2, 16) := by kernel_rfl

/-- A list of spans is answered, in memory of the call's own; what was there before is as it was. -/
def GivesS (l : List (Int × Int)) (w : World) (e : Ending) (w' : World) : Prop :=
  ∃ v, e = .returned v ∧ w'.ownsRow w.heap.size 44 2 v l.length (stCells l) ∧ Below w.heap.size w w'

theorem reach_cells (l : List (Int × Int)) (h : 0 < l.length) (x : Int) : (stCells l).set ((l.length - 1) * 2 + 1) (.int .i64 x) = stCells (Sp.reach l x) := by
  have h1 : stCells l = stCells l.dropLast ++ [.int .i64 (l.getD (l.length - 1) (0, 0)).1, .int .i64 (l.getD (l.length - 1) (0, 0)).2] := by
    conv => lhs; rw [Sp.split_last l h]
    rw [stCells_append]
    rfl
  have h2 : (stCells l.dropLast).length = (l.length - 1) * 2 := by rw [stCells_length, List.length_dropLast]
  unfold Sp.reach
  rw [h1, stCells_append, ← h2, List.set_append_right _ _ (by omega)]
  congr 1
  rw [show (stCells l.dropLast).length + 1 - (stCells l.dropLast).length = 1 from by omega]
  rfl

set_option maxRecDepth 100000 in
set_option maxHeartbeats 3200000 in
theorem ofS_any (f : Nat → Bool) (w : World) : Calls Try.prog 33 #[.agg (Sp.arr f)] w (GivesS (Sp.ofL f) w) := by
  obtain ⟨i0, hi, hz0, hz1, hz2⟩ := info_parts infoSp
  go_enter Try.func33, Try.ntmps33
  go_wp2_with fail
  go_loopw [3, 4] (fun s3 s4 wr => ∃ k : Nat, k ≤ 256 ∧ s4 = .int .i64 (k : Int) ∧ wr.ownsRow (w.heap.size + 1) 44 2 s3 (Sp.ofTo f k).length (stCells (Sp.ofTo f k)) ∧ Blk wr w.heap.size 38 (Sp.arr f) ∧ Below w.heap.size w wr) (fun _ s4 _ => 256 - (intOf s4).toNat)
  case atStart => exact ⟨0, by omega, rfl, ⟨rfl, .inl ⟨rfl, rfl⟩⟩, Blk.new _ _ _, below_new (Below.refl _ _) _⟩
  case round =>
    obtain ⟨k, hk, rfl, hown, hB, hbw⟩ := hrel
    by_cases hlt : k < 256
    · have c0 := hB.marks_cell k hlt
      have hi0 : (0 : Int) ≤ (k : Int) := by omega
      have hi1 : (k : Int) < 256 := by omega
      have hln : (Sp.ofTo f k).length ≤ 256 := by have := Sp.ofTo_short f k; omega
      have hsz := hbw.size
      have HB := Lib.hid hB
      have hst := Sp.ofTo.eq_2 f k
      have his := (Sp.ofTo_is f k).2.2.1
      cases hp : f k
      · rw [hp] at c0 hst
        have HST := Lib.hid (hst.trans (if_neg (by simp)))
        have HO := Lib.hid hown
        clear hown hst hp hB his
        go_wp2_with fail
        go_roundw
        case rel => exact ⟨k + 1, by omega, by go_num, by rw [HST.out]; exact HO.out, HB.out, hbw⟩
        case measure => simp [intOf]; omega
      · rw [hp] at c0 hst
        rw [if_pos rfl] at hst
        by_cases hq : 0 < k ∧ f (k - 1) = true
        · rw [if_pos hq] at hst
          obtain ⟨hl0, _⟩ := his hq.1 hq.2
          obtain ⟨m, rfl⟩ : ∃ m, k = m + 1 := ⟨k - 1, by omega⟩
          have c1 := hB.marks_cell m (by omega)
          have hfm : f m = true := hq.2
          rw [hfm] at c1
          have hm1 : ((m + 1 : Nat) : Int) - 1 = (m : Int) := by omega
          have hm0 : (0 : Int) ≤ (m : Int) := by omega
          have hm2 : (m : Int) < 256 := by omega
          have hg : decide (((m + 1 : Nat) : Int) > 0) = true := decide_eq_true (by omega)
          obtain ⟨g, cap, rfl⟩ := own_len hown hl0
          obtain ⟨hg1, hg2⟩ := own_base_le hown
          have hrc := reach_cells _ hl0 ((m + 1 : Nat) : Int)
          have hrl := Sp.reach_len _ ((m + 1 : Nat) : Int) hl0
          obtain ⟨L, hL⟩ : ∃ L, Sp.ofTo f (m + 1) = L := ⟨_, rfl⟩
          rw [hL] at hown hrc hrl hst hl0 hln
          obtain ⟨q, hq1⟩ : ∃ q, L.length = q + 1 := ⟨L.length - 1, by omega⟩
          have hcl := own_cell_at hown (i := q * 2 + 1) (stCells_get L q (by omega)).2
          have hfr := own_free_at hown (q * 2 + 1)
          have hpt := own_put hown (q * 2 + 1) (.int .i64 ((m + 1 : Nat) : Int))
          rw [hq1, show q + 1 - 1 = q from rfl] at hrc
          rw [hrc] at hpt
          rw [← hst] at hpt hrl
          rw [← hrl] at hpt
          have hq2 : ((q + 1 : Nat) : Int) - 1 = (q : Int) := by omega
          have hq3 : (0 : Int) ≤ (q : Int) := by omega
          have hq4 : (q : Int) < ((q + 1 : Nat) : Int) := by omega
          have hB2 := Lib.hid (HB.out.far (p := ⟨g, q * 2 + 1, none⟩) (by show w.heap.size ≠ g; omega) (.int .i64 ((m + 1 : Nat) : Int)))
          have hb2 := hbw.setCell (p := ⟨g, q * 2 + 1, none⟩) (by show w.heap.size ≤ g; omega) (.int .i64 ((m + 1 : Nat) : Int))
          rw [hrl, hq1] at hpt
          rw [hL, hq1]
          have HPT := Lib.hid hpt
          have HRL := Lib.hid (hrl.trans hq1)
          clear hpt hrc hst hown hB hq hp hfm hL his hl0
          go_wp2_with fail
          go_roundw
          case rel => exact ⟨m + 1 + 1, by omega, by go_num, by rw [HRL.out]; exact HPT.out, hB2.out, hb2⟩
          case measure => simp [intOf]; omega
        · have hgd : 0 < k → f (k - 1) = false := fun h0 => by
            cases hf : f (k - 1) with
            | false => rfl
            | true => exact absurd ⟨h0, hf⟩ hq
          rw [if_neg hq] at hst
          have HST := Lib.hid hst
          cases k with
          | zero =>
            clear hst hq hp hB his
            go_wp2_with (at_builtin; refine wpList_append_lies _ rfl _ _ 22 rfl (w.heap.size + 1) 44 i0 (.agg #[.int .i64 0, .int .i64 0]) 2 16 Try.underlying22 hi hz0 hz1 hz2 rfl (by decide) _ (Sp.ofTo f 0).length (stCells (Sp.ofTo f 0)) rfl (hown.alloc _) (some ⟨wr.heap.size, 0, none⟩) 1 1 (fun h => by cases h) (stCells [(0, 0)]) rfl rfl ?c1 (stCells_one _) ?c3 ?c4 ?c5 ?_)
            case c1 =>
              intro _
              refine ⟨wr.heap.size, 0, rfl, fun j u hu => ?_⟩
              rw [Nat.zero_add]
              exact (Blk.new wr 44 #[.int .i64 0, .int .i64 0]).cell (by simpa [stCells] using hu)
            case c3 => unfold maxLen; omega
            case c4 => omega
            case c5 => have := HB.out.lt; simp; omega
            intro v' w1 hown1 hg1 _
            have hB1 : Blk w1 w.heap.size 38 (Sp.arr f) := (hg1.block w.heap.size (by have := HB.out.lt; simp; omega) (fun e => by have := own_ge hown _ e.symm; omega)).trans (HB.out.alloc _)
            have hb1 : Below w.heap.size w w1 := (below_new hbw _).grown hg1 (by simp; omega) (fun k' hk' => by have := own_ge hown _ hk'; omega)
            rw [← stCells_append, show (Sp.ofTo f 0).length + 1 = (Sp.ofTo f 0 ++ [(((0 : Nat) : Int), ((0 : Nat) : Int))]).length from by simp] at hown1
            have HO := Lib.hid (show w1.ownsRow _ _ _ v' _ (stCells (Sp.ofTo f 0 ++ [(((0 : Nat) : Int), ((0 : Nat) : Int))])) from hown1)
            have HB1 := Lib.hid hB1
            clear hown1 hB1 hown hg1
            go_wp2_with fail
            go_roundw
            case rel => exact ⟨0 + 1, by omega, by go_num, by rw [HST.out]; exact HO.out, HB1.out, hb1⟩
            case measure => simp [intOf]
          | succ m =>
            have c1 := hB.marks_cell m (by omega)
            have hfm : f m = false := hgd (by omega)
            rw [hfm] at c1
            have hm1 : ((m + 1 : Nat) : Int) - 1 = (m : Int) := by omega
            have hm0 : (0 : Int) ≤ (m : Int) := by omega
            have hm2 : (m : Int) < 256 := by omega
            have hg : decide (((m + 1 : Nat) : Int) > 0) = true := decide_eq_true (by omega)
            clear hst hq hp hB his hgd hfm
            go_wp2_with (at_builtin; refine wpList_append_lies _ rfl _ _ 22 rfl (w.heap.size + 1) 44 i0 (.agg #[.int .i64 0, .int .i64 0]) 2 16 Try.underlying22 hi hz0 hz1 hz2 rfl (by decide) _ (Sp.ofTo f (m + 1)).length (stCells (Sp.ofTo f (m + 1))) rfl (hown.alloc _) (some ⟨wr.heap.size, 0, none⟩) 1 1 (fun h => by cases h) (stCells [(((m + 1 : Nat) : Int), ((m + 1 : Nat) : Int))]) rfl rfl ?c1 (stCells_one _) ?c3 ?c4 ?c5 ?_)
            case c1 =>
              intro _
              refine ⟨wr.heap.size, 0, rfl, fun j u hu => ?_⟩
              rw [Nat.zero_add]
              exact (Blk.new wr 44 #[.int .i64 ((m + 1 : Nat) : Int), .int .i64 ((m + 1 : Nat) : Int)]).cell (by simpa [stCells] using hu)
            case c3 => unfold maxLen; omega
            case c4 => omega
            case c5 => have := HB.out.lt; simp; omega
            intro v' w1 hown1 hg1 _
            have hB1 : Blk w1 w.heap.size 38 (Sp.arr f) := (hg1.block w.heap.size (by have := HB.out.lt; simp; omega) (fun e => by have := own_ge hown _ e.symm; omega)).trans (HB.out.alloc _)
            have hb1 : Below w.heap.size w w1 := (below_new hbw _).grown hg1 (by simp; omega) (fun k' hk' => by have := own_ge hown _ hk'; omega)
            rw [← stCells_append, show (Sp.ofTo f (m + 1)).length + 1 = (Sp.ofTo f (m + 1) ++ [(((m + 1 : Nat) : Int), ((m + 1 : Nat) : Int))]).length from by simp] at hown1
            have HO := Lib.hid hown1
            have HB1 := Lib.hid hB1
            clear hown1 hB1 hown hg1
            go_wp2_with fail
            go_roundw
            case rel => exact ⟨m + 1 + 1, by omega, by go_num, by rw [HST.out]; exact HO.out, HB1.out, hb1⟩
            case measure => simp [intOf]; omega
    · have hk64 : k = 256 := by omega
      subst hk64
      have HO := Lib.hid hown
      clear hown
      go_wp2
      go_ret
      exact ⟨_, rfl, own_base HO.out (by omega), hbw⟩

end Go.Proofs.Ytnnmcnbpnfegpaa
