/-
  VectorWiths walked from vector's contracts.
-/
import Derived.Test.YtjdiopoikppifaaVecSpec
namespace Go.Proofs.Ytjdiopoikppifaa
open Go.RowKit

theorem same_self {A B : Option Addr} {c d : Nat} {l : List (Int × Int)} {w : World} (h1 : OneL w A c l) (h2 : OneL w B d l) :
    Calls Try.prog 19 #[.slice A l.length c, .slice B l.length d] w (Says (.bool true) w) := by
  have h := rsame_any A B c d l l w h1.len h1.stamps h2.stamps
  rw [decide_eq_true rfl] at h
  exact h

set_option maxHeartbeats 1600000 in
theorem lawWiths_any (S : VecSpec) (A : Option Addr) (c : Nat) (l : List (Int × Int)) (k n : Int) (w : World) (h1 : OneL w A c l) :
    Calls Try.prog 6 #[.slice A l.length c, .agg #[.int .i64 k, .int .i64 n]] w (Says (.bool true) w) := by
  have hb0 := below_new (Below.refl w.heap.size w) (.cells #[.int .i64 k, .int .i64 n] 24)
  have hB := Blk.new w 24 #[.int .i64 k, .int .i64 n]
  have h1' := h1.later hb0
  obtain ⟨W, hW⟩ : ∃ W, w.alloc (.cells #[.int .i64 k, .int .i64 n] 24) = W := ⟨_, rfl⟩
  rw [hW] at hb0 hB h1'
  have n0 := alive_any S
  have n1 := S.with_ A c l k n W h1'
  have n2 := fun wx (hb : Below W.heap.size W wx) => rwith_any A c l k n wx (h1'.later hb)
  have hfd : Ve.fmd (Ve.joinL [l, [(k, n)]]) = true := Ve.fmd_ofL _
  obtain ⟨J, hJ⟩ : ∃ J, Ve.joinL [l, [(k, n)]] = J := ⟨_, rfl⟩
  rw [hJ] at n1 n2 hfd
  have n3 := fun B d wx (hx : OneL wx B d J) => S.formed B d J wx hx
  rw [hfd] at n3
  have HW := Lib.hid hW
  have N0 := Lib.hid n0
  have N1 := Lib.hid n1
  have N2 := Lib.hid n2
  have N3 := Lib.hid n3
  clear n0 n1 n2 n3 hJ h1 h1' hfd hW
  go_enter Try.func6, Try.ntmps6
  go_wp2_with fail
  rw [HW.out]
  have c0 := hB.cell (i := 0) rfl
  have c1 := hB.cell (i := 1) rfl
  clear HW
  go_wp2_with fail
  refine N1.out.mono ?_
  rintro e w1 ⟨B, d, rfl, ho, b1⟩
  have HO := Lib.hid ho
  have b1' := below_on (Below.refl _ _) b1
  have d0 := cell_later b1 c0
  have d1 := cell_later b1 c1
  clear ho
  go_wp2_with fail
  refine (N0.out _).mono ?_
  rintro e w2 ⟨rfl, b2⟩
  have b2' := below_on b1' b2
  have e0 := cell_later b2 d0
  have e1 := cell_later b2 d1
  go_wp2_with fail
  refine (N2.out _ b2').mono ?_
  rintro e w3 hg
  obtain ⟨B2, d2, rfl, ho2, b3⟩ := hg.ans
  have b3' := below_on b2' b3
  have hs := same_self ((HO.out.later b2).later b3) ho2
  have HS := Lib.hid hs
  have HO3 := Lib.hid ((HO.out.later b2).later b3)
  clear hg ho2 hs
  go_wp2_with fail
  refine HS.out.mono ?_
  rintro e w4 ⟨rfl, b4⟩
  have b4' := below_on b3' b4
  go_wp2_with fail
  refine (N3.out _ _ _ (HO3.out.later b4)).mono ?_
  rintro e w5 ⟨rfl, b5⟩
  go_wp2
  go_ret
  exact ⟨rfl, below_on hb0 (below_on b4' b5)⟩

end Go.Proofs.Ytjdiopoikppifaa
