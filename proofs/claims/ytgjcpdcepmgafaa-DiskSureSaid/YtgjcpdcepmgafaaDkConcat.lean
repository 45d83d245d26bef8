/-
  What slices.Grow answers of no slice at files, and slices.Concat of three lists of files.
-/
import Derived.Test.YtgjcpdcepmgafaaDkCopy
import Derived.Lib.AppendZerosOnto
import Derived.Lib.Walk
namespace Go.Proofs.Ytgjcpdcepmgafaa
open Go.RowKit

set_option maxHeartbeats 3200000 in
set_option maxRecDepth 100000 in
theorem growF_any (n : Nat) (w : World) (hn : n * 40 ≤ 140737488355328) :
    Calls Try.prog 52 #[.slice none 0 0, .int .i64 n] w fun e w' => ∃ v, e = .returned v ∧ w'.ownsRow w.heap.size 43 3 v 0 [] ∧ Below w.heap.size w w' := by
  by_cases h0 : n = 0
  · subst h0
    go_enter Try.func52, Try.ntmps52
    go_wp2
    go_ret
    exact ⟨_, rfl, ⟨rfl, .inl ⟨rfl, rfl⟩⟩, Below.refl _ _⟩
  · obtain ⟨i0, hI, hz0, hz1, hz2⟩ := info_parts infoFi
    have hn1 : ¬ ((n : Int) < 0) := by omega
    have hn2 : (0 : Int) < (n : Int) := by omega
    have hold : (Builtin.firstCells i0.size 0 (.slice none 0 0)).run Try.prog w.drew = .ok ([] : List Value).toArray w.drew := run_firstCells_none w.drew i0.size 0 0 0
    obtain ⟨G, hG⟩ : ∃ G, grownCap w n 0 43 = G := ⟨_, rfl⟩
    have hGn : n ≤ G := by rw [← hG]; exact grownCap_ge w _ _ _
    have hG63 : G ≤ maxLen := by rw [← hG]; exact grownCap_le_maxLen w n 0 43 (by unfold maxLen; omega)
    obtain ⟨Z, hZ⟩ : ∃ Z, ([] : List Value).toArray ++ Builtin.zeroCells (Value.cells (.agg #[.int .i64 0, .slice none 0 0, .int .i64 0])) n ++ Builtin.zeroCells (Value.cells (.agg #[.int .i64 0, .slice none 0 0, .int .i64 0])) (G - n) = Z := ⟨_, rfl⟩
    have hZs : Z.size = G * 3 := by
      rw [← hZ, Array.size_append, Array.size_append, size_zeroCells, size_zeroCells]
      show 0 + n * 3 + (G - n) * 3 = G * 3
      omega
    have hrz : ∀ ty, (Builtin.append_ #[22, 3] ty #[.slice none 0 0, .int .i64 (n : Int)]).run Try.prog w = .ok (.slice (some ⟨w.heap.size, 0, none⟩) n G) (w.drew.alloc (.cells Z 43)) := fun ty => by
      have h := Lib.run_append_grow_zeros w 22 3 ty 43 i0 (.agg #[.int .i64 0, .slice none 0 0, .int .i64 0]) .i64 .i64 Try.underlying22 Try.underlying3 hI hz0 none 0 0 [] hold n (by omega) (by rw [hz1]; omega) (by omega) (by omega) (by rw [hz2]; omega) (growslice_fits (by omega) (by rw [hz2]; omega))
      rw [Nat.zero_add, hG, hZ] at h
      exact h
    have hB := Blk.new w.drew 43 Z
    have HB := Lib.hid (show Blk (w.drew.alloc (.cells Z 43)) w.heap.size 43 Z from hB)
    have hG1 : G ≤ 9223372036854775807 := by unfold maxLen at hG63; exact hG63
    have HZS := Lib.hid hZs
    have HGM := Lib.hid hG63
    have hbz := (Below.drew (Below.refl w.heap.size w)).alloc (Nat.le_refl _) (.cells Z 43)
    clear hold hG hZ hB hZs hG63
    go_enter Try.func52, Try.ntmps52
    go_wp2_with (at_builtin; refine Lib.wpList_append_run _ rfl _ _ _ _ rfl _ _ rfl rfl _ _ (hrz _) ?_)
    all_goals (go_ret; exact ⟨_, rfl, ⟨rfl, .inr ⟨w.heap.size, G, Z, rfl, Nat.le_refl _, HB.out, Nat.zero_le _, HGM.out, HZS.out, rfl⟩⟩, hbz⟩)

set_option maxHeartbeats 6400000 in
set_option maxRecDepth 100000 in
theorem concatF_any (g : Nat) (A1 A2 A3 : Option Addr) (c1 c2 c3 n1 n2 n3 : Nat) (x1 x2 x3 : List Value) (w : World) (hB : Blk w g 22 #[.slice A1 n1 c1, .slice A2 n2 c2, .slice A3 n3 c3])
    (a1 : A1 = none → n1 = 0 ∧ c1 = 0) (a2 : A2 = none → n2 = 0 ∧ c2 = 0) (a3 : A3 = none → n3 = 0 ∧ c3 = 0) (l1 : x1.length = n1 * 3) (l2 : x2.length = n2 * 3) (l3 : x3.length = n3 * 3) (o1 : ∀ u ∈ x1, u.oneCell' = true) (o2 : ∀ u ∈ x2, u.oneCell' = true) (o3 : ∀ u ∈ x3, u.oneCell' = true)
    (h1 : Lies w A1 x1) (h2 : Lies w A2 x2) (h3 : Lies w A3 x3) (hsz : (n1 + n2 + n3) * 40 ≤ 140737488355328) :
    Calls Try.prog 45 #[.slice (some ⟨g, 0, none⟩) 3 3] w fun e w' => ∃ v, e = .returned v ∧ w'.ownsRow w.heap.size 43 3 v (n1 + n2 + n3) (x1 ++ x2 ++ x3) ∧ Below w.heap.size w w' := by
  obtain ⟨i0, hI, hz0, hz1, hz2⟩ := info_parts infoFi
  obtain ⟨n, hn⟩ : ∃ n, n1 + n2 + n3 = n := ⟨_, rfl⟩
  have N0 := Lib.hid (growF_any n w (by omega))
  have d0 := hB.cell (i := 0) rfl
  have d1 := hB.cell (i := 1) rfl
  have d2 := hB.cell (i := 2) rfl
  have q0 : ¬ ((n1 : Int) < 0) := by omega
  have q1 : (n1 : Int) + (n2 : Int) + (n3 : Int) = (n : Int) := by omega
  have q2 : ¬ ((n : Int) < 0) := by omega
  have q3 : ¬ ((n1 : Int) + (n2 : Int) < 0) := by omega
  have H1 := Lib.hid h1; have H2 := Lib.hid h2; have H3 := Lib.hid h3
  have L1 := Lib.hid l1; have L2 := Lib.hid l2; have L3 := Lib.hid l3
  have D0 := Lib.hid d0; have D1 := Lib.hid d1; have D2 := Lib.hid d2
  clear hB h1 h2 h3 hn l1 l2 l3
  go_enter Try.func45, Try.ntmps45
  go_wp2_with fail
  refine wp_loop_rounds 4 ?_
  rw [rounds_succ]
  go_wp2
  rw [rounds_succ]
  go_wp2
  rw [rounds_succ]
  go_wp2
  rw [rounds_succ]
  go_wp2_with fail
  refine N0.out.mono ?_
  rintro e w1 ⟨v, rfl, ho, b1⟩
  have e0 := cell_later b1 D0.out
  have HO := Lib.hid ho
  have hz := b1.size
  clear ho d0 d1 d2
  go_wp2_with fail
  refine wp_loop_rounds 4 ?_
  rw [rounds_succ]
  go_wp2_with (at_builtin; refine wpList_append_lies _ rfl _ _ 22 rfl w.heap.size 43 i0 (.agg #[.int .i64 0, .slice none 0 0, .int .i64 0]) 3 40 Try.underlying22 hI hz0 hz1 hz2 rfl (by decide) _ 0 [] rfl HO.out A1 n1 c1 a1 x1 rfl L1.out (H1.out.later b1) o1 (by unfold maxLen; omega) (by omega) hz ?_)
  intro v2 w2 ho2 hg2 _
  have b2 : Below w.heap.size w w2 := b1.grown hg2 hz (fun k hk => own_ge HO.out _ hk)
  have HO2 := Lib.hid ho2
  have e1 := cell_later b2 D1.out
  have hz2' := b2.size
  clear ho2 hg2 e0
  go_wp2_with fail
  rw [rounds_succ]
  go_wp2_with (at_builtin; refine wpList_append_lies _ rfl _ _ 22 rfl w.heap.size 43 i0 (.agg #[.int .i64 0, .slice none 0 0, .int .i64 0]) 3 40 Try.underlying22 hI hz0 hz1 hz2 rfl (by decide) _ n1 x1 rfl HO2.out A2 n2 c2 a2 x2 rfl L2.out (H2.out.later b2) o2 (by unfold maxLen; omega) (by omega) hz2' ?_)
  intro v3 w3 ho3 hg3 _
  have b3 : Below w.heap.size w w3 := b2.grown hg3 hz2' (fun k hk => own_ge HO2.out _ hk)
  have HO3 := Lib.hid ho3
  have e2 := cell_later b3 D2.out
  have hz3' := b3.size
  clear ho3 hg3 e1
  go_wp2_with fail
  rw [rounds_succ]
  go_wp2_with (at_builtin; refine wpList_append_lies _ rfl _ _ 22 rfl w.heap.size 43 i0 (.agg #[.int .i64 0, .slice none 0 0, .int .i64 0]) 3 40 Try.underlying22 hI hz0 hz1 hz2 rfl (by decide) _ (n1 + n2) (x1 ++ x2) rfl HO3.out A3 n3 c3 a3 x3 rfl L3.out (H3.out.later b3) o3 (by unfold maxLen; omega) (by omega) hz3' ?_)
  intro v4 w4 ho4 hg4 _
  have b4 : Below w.heap.size w w4 := b3.grown hg4 hz3' (fun k hk => own_ge HO3.out _ hk)
  have HO4 := Lib.hid ho4
  clear ho4 hg4 e2
  go_wp2_with fail
  rw [rounds_succ]
  go_wp2
  go_ret
  exact ⟨v4, rfl, by rw [List.append_assoc]; exact HO4.out, b4⟩

end Go.Proofs.Ytgjcpdcepmgafaa
