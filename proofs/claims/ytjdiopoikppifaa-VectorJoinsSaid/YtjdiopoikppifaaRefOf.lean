/-
  What telltaleref02's Of answers of any 64 counts: the vector of those above 0, in memory of its own.
-/
import Derived.Test.YtjdiopoikppifaaRefCounts
import Derived.Laws.OwnMore
import Derived.OwnWalk
namespace Go.Proofs.Ytjdiopoikppifaa
open Go.RowKit

theorem infoSt : (Try.prog.info? 24).map (fun i => (i.zero, i.size, i.bytes)) = some (some (.agg #[.int .i64 0, .int .i64 0]), 2, 16) := by kernel_rfl

/-- A list of stamps is answered, in memory of the call's own; what was there before is as it was. -/
def Gives (l : List (Int × Int)) (w : World) (e : Ending) (w' : World) : Prop :=
  ∃ v, e = .returned v ∧ w'.ownsRow w.heap.size 24 2 v l.length (stCells l) ∧ Below w.heap.size w w'

set_option maxRecDepth 100000 in
set_option maxHeartbeats 1600000 in
theorem of_any (f : Nat → Int) (w : World) : Calls Try.prog 37 #[.agg (Ve.arr f)] w (Gives (Ve.ofL f) w) := by
  obtain ⟨i0, hi, hz0, hz1, hz2⟩ := info_parts infoSt
  go_enter Try.func37, Try.ntmps37
  go_wp2_with fail
  go_loopw [3, 4] (fun s3 s4 wr => ∃ k : Nat, k ≤ 64 ∧ s4 = .int .i64 (k : Int) ∧ wr.ownsRow (w.heap.size + 1) 24 2 s3 (Ve.ofTo f k).length (stCells (Ve.ofTo f k)) ∧ Blk wr w.heap.size 45 (Ve.arr f) ∧ Below w.heap.size w wr) (fun _ s4 _ => 64 - (intOf s4).toNat)
  case atStart => exact ⟨0, by omega, rfl, ⟨rfl, .inl ⟨rfl, rfl⟩⟩, Blk.new _ _ _, below_new (Below.refl _ _) _⟩
  case round =>
    obtain ⟨k, hk, rfl, hown, hB, hbw⟩ := hrel
    by_cases hlt : k < 64
    · have c0 := hB.arr_cell k hlt
      have hi0 : (0 : Int) ≤ (k : Int) := by omega
      have hi1 : (k : Int) < 64 := by omega
      have hln := Ve.ofTo_len f k
      have hsz := hbw.size
      have HB := Lib.hid hB
      clear hB
      by_cases hp : 0 < f k
      · have hd : decide (0 < f k) = true := decide_eq_true hp
        have hst : Ve.ofTo f (k + 1) = Ve.ofTo f k ++ [(f k, (k : Int))] := by rw [Ve.ofTo, if_pos hp]
        have HST := Lib.hid hst
        clear hst
        go_wp2_with (at_builtin; refine wpList_append_lies _ rfl _ _ 22 rfl (w.heap.size + 1) 24 i0 (.agg #[.int .i64 0, .int .i64 0]) 2 16 Try.underlying22 hi hz0 hz1 hz2 rfl (by decide) _ (Ve.ofTo f k).length (stCells (Ve.ofTo f k)) rfl (hown.alloc _) (some ⟨wr.heap.size, 0, none⟩) 1 1 (fun h => by cases h) (stCells [(f k, (k : Int))]) rfl rfl ?c1 (stCells_one _) ?c3 ?c4 ?c5 ?_)
        case c1 =>
          intro _
          refine ⟨wr.heap.size, 0, rfl, fun j u hu => ?_⟩
          rw [Nat.zero_add]
          exact (Blk.new wr 24 #[.int .i64 (f k), .int .i64 (k : Int)]).cell (by simpa [stCells] using hu)
        case c3 => unfold maxLen; omega
        case c4 => omega
        case c5 => have := HB.out.lt; simp; omega
        intro v' w1 hown1 hg1 _
        have hB1 : Blk w1 w.heap.size 45 (Ve.arr f) := (hg1.block w.heap.size (by have := HB.out.lt; simp; omega) (fun e => by have := own_ge hown _ e.symm; omega)).trans (HB.out.alloc _)
        have hb1 : Below w.heap.size w w1 := (below_new hbw _).grown hg1 (by simp; omega) (fun k' hk' => by have := own_ge hown _ hk'; omega)
        rw [← stCells_append, show (Ve.ofTo f k).length + 1 = (Ve.ofTo f k ++ [(f k, (k : Int))]).length from by simp, ← HST.out] at hown1
        have HO := Lib.hid hown1
        have HB1 := Lib.hid hB1
        clear hown1 hB1 hown hg1
        go_wp2_with fail
        go_roundw
        case rel => exact ⟨k + 1, by omega, by go_num, HO.out, HB1.out, hb1⟩
        case measure => simp [intOf]; omega
      · have hd : decide (0 < f k) = false := decide_eq_false hp
        have hst : Ve.ofTo f (k + 1) = Ve.ofTo f k := by rw [Ve.ofTo, if_neg hp, List.append_nil]
        have HST := Lib.hid hst
        clear hst
        have HO := Lib.hid hown
        clear hown
        go_wp2_with fail
        go_roundw
        case rel => exact ⟨k + 1, by omega, by go_num, by rw [HST.out]; exact HO.out, HB.out, hbw⟩
        case measure => simp [intOf]; omega
    · have hk64 : k = 64 := by omega
      subst hk64
      have HO := Lib.hid hown
      clear hown
      go_wp2
      go_ret
      exact ⟨_, rfl, own_base HO.out (by omega), hbw⟩

end Go.Proofs.Ytjdiopoikppifaa
