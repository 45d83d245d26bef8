/-
  The laws of frame: what stands in all of them; FrameSums, FrameCuts, walked.
-/
import Derived.Test.YtobgbaejdamecaaDoorFrCut
import Derived.Lib.SlBytesConst
namespace Go.Proofs.YtobgbaejdamecaaDoor
open Go.RowKit

theorem Fr.frm_nil : Fr.frm [] = [0, 0, 0, 0, 33, 68, 223, 28] := by decide +kernel
theorem Fr.sum_nine : Fr.sum [49, 50, 51, 52, 53, 54, 55, 56, 57] = 3421780262 := by decide +kernel

set_option maxRecDepth 100000 in
set_option maxHeartbeats 1600000 in
theorem falive_any (w : World) (hH : Halves w) : Calls Tryd.prog 9 #[] w (Says (.bool true) w) := by
  have n1 := dseal_any none 0 [] w (OneB.nil w) hH
  have hse : Fr.sealed [] = ([0, 0, 0, 0, 33, 68, 223, 28], 0) := by unfold Fr.sealed; rw [Fr.frm_nil]; rfl
  rw [hse] at n1
  have N1 := Lib.hid (show Calls Tryd.prog 13 #[.slice none 0 0] w (GivesBE [0, 0, 0, 0, 33, 68, 223, 28] 0 w) from n1)
  have HH := Lib.hid hH
  clear n1 hse hH
  have hby : ∀ x ∈ ([0, 0, 0, 0, 33, 68, 223, 28] : List Int), isB x := by
    intro x hx
    simp at hx
    unfold isB
    omega
  have HBY := Lib.hid hby
  clear hby
  go_enter Tryd.func9, Tryd.ntmps9
  go_wp2_with fail
  refine N1.out.mono ?_
  rintro e w1 ⟨v, rfl, ho, b1⟩
  obtain ⟨A, c, rfl, hA⟩ := OneB.of_own ho HBY.out
  have bn := below_new (Below.refl w1.heap.size w1) (.cells #[.int .u8 49, .int .u8 50, .int .u8 51, .int .u8 52, .int .u8 53, .int .u8 54, .int .u8 55, .int .u8 56, .int .u8 57] 5 (9, 10))
  have kc : (convert 22 22 (.slice (some ⟨w1.heap.size, 0, none⟩) 9 9)).run Tryd.prog (w1.alloc (.cells #[.int .u8 49, .int .u8 50, .int .u8 51, .int .u8 52, .int .u8 53, .int .u8 54, .int .u8 55, .int .u8 56, .int .u8 57] 5)) = .ok (.slice (some ⟨w1.heap.size, 0, none⟩) 9 9) (w1.alloc (.cells #[.int .u8 49, .int .u8 50, .int .u8 51, .int .u8 52, .int .u8 53, .int .u8 54, .int .u8 55, .int .u8 56, .int .u8 57] 5 (9, 10))) := Lib.run_convert_bytes_const (P := Tryd.prog) w1 22 5 #[.int .u8 49, .int .u8 50, .int .u8 51, .int .u8 52, .int .u8 53, .int .u8 54, .int .u8 55, .int .u8 56, .int .u8 57] 9 9 Tryd.underlying22 Tryd.underlying5
  have nine : OneB (w1.alloc (.cells #[.int .u8 49, .int .u8 50, .int .u8 51, .int .u8 52, .int .u8 53, .int .u8 54, .int .u8 55, .int .u8 56, .int .u8 57] 5 (9, 10))) (some ⟨w1.heap.size, 0, none⟩) 9 [49, 50, 51, 52, 53, 54, 55, 56, 57] :=
    ⟨Nat.le_refl _, by unfold maxLen; omega, (fun h => by cases h), (fun _ => ⟨w1.heap.size, 0, rfl, fun j u hu => by
      rw [Nat.zero_add, World.cell?_alloc_mark]
      simpa [bCells] using hu⟩), by
      intro x hx
      simp at hx
      unfold isB
      omega⟩
  have N2 := dsum_any (some ⟨w1.heap.size, 0, none⟩) 9 [49, 50, 51, 52, 53, 54, 55, 56, 57] _ nine ((HH.out.later b1).later bn)
  rw [Fr.sum_nine] at N2
  have N3 := Lib.hid (show Calls Tryd.prog 11 #[.slice (some ⟨w1.heap.size, 0, none⟩) 9 9] _ (Says (.int .u32 3421780262) _) from N2)
  have HA := Lib.hid hA; have BN := Lib.hid bn
  clear nine bn ho hA N2
  go_wp2_with fail
  refine N3.out.mono ?_
  rintro e w3 ⟨rfl, b3⟩
  have hA3 := (HA.out.later BN.out).later b3
  obtain ⟨b, off, rfl, hc⟩ := hA3.at (by simp)
  have c4 := hc 4 (by simp)
  rw [show ([0, 0, 0, 0, 33, 68, 223, 28] : List Int).getD 4 0 = 33 from rfl] at c4
  have hcap := hA3.le
  have BB := Lib.hid (below_on b1 (below_on BN.out b3))
  clear hc hA3
  go_wp2
  go_ret
  exact ⟨rfl, BB.out⟩

set_option maxRecDepth 100000 in
set_option maxHeartbeats 3200000 in
theorem lawFSums_any (A B : Option Addr) (c d : Nat) (a b : List Int) (w : World) (ha : OneB w A c a) (hb : OneB w B d b) (hH : Halves w) :
    Calls Tryd.prog 3 #[.slice A a.length c, .slice B b.length d] w (Says (.bool true) w) := by
  obtain ⟨i0, hi, hz0, hz1, hz2⟩ := info_parts infoBy
  have hal := ha.len
  have hbl := hb.len
  have CA := Lib.hid (falive_any w hH); have HA := Lib.hid ha; have HB := Lib.hid hb; have HH := Lib.hid hH
  clear ha hb hH
  by_cases h1 : 65536 < a.length
  · have hd : decide ((65536 : Int) < (a.length : Int)) = true := decide_eq_true (by omega)
    clear h1
    go_enter Tryd.func3, Tryd.ntmps3
    go_wp2_with fail
    refine CA.out.mono ?_
    rintro e w1 ⟨rfl, b1⟩
    go_wp2
    go_ret
    exact ⟨rfl, b1⟩
  have hd1 : decide ((65536 : Int) < (a.length : Int)) = false := decide_eq_false (by omega)
  by_cases h2 : 65536 < b.length
  · have hd : decide ((65536 : Int) < (b.length : Int)) = true := decide_eq_true (by omega)
    clear h1 h2
    go_enter Tryd.func3, Tryd.ntmps3
    go_wp2_with fail
    refine CA.out.mono ?_
    rintro e w1 ⟨rfl, b1⟩
    go_wp2
    go_ret
    exact ⟨rfl, b1⟩
  have hd2 : decide ((65536 : Int) < (b.length : Int)) = false := decide_eq_false (by omega)
  have hl1 : a.length ≤ 65536 := by omega
  have hl2 : b.length ≤ 65536 := by omega
  clear h1 h2
  go_enter Tryd.func3, Tryd.ntmps3
  go_wp2_with fail
  refine CA.out.mono ?_
  rintro e w1 ⟨rfl, b1⟩
  have CC := Lib.hid (bcopy_any A c a w1 (by omega) (HA.out.later b1))
  go_wp2_with fail
  refine CC.out.mono ?_
  rintro e w2 ⟨v, rfl, ho, b2⟩
  have bb2 := below_on b1 b2
  have hz3 := b2.size
  have HO := Lib.hid ho
  clear ho
  go_wp2_with (at_builtin; refine wpList_append_lies _ rfl _ _ 22 rfl w1.heap.size 5 i0 (.int .u8 0) 1 1 Tryd.underlying22 hi hz0 hz1 hz2 rfl (by decide) _ a.length (bCells a) rfl HO.out B b.length d (HB.out.later bb2).noA (bCells b) rfl (by rw [bCells_length, Nat.mul_one]) (HB.out.later bb2).lies (bCells_one b) ?c3 ?c4 ?c5 ?_)
  case c3 => unfold maxLen; omega
  case c4 => omega
  case c5 => exact hz3
  intro v3 w3 ho3 hg3 _
  have b3 : Below w1.heap.size w1 w3 := b2.grown hg3 hz3 (fun k' hk' => own_ge HO.out k' hk')
  have bb3 := below_on b1 b3
  rw [← bCells_append, ← List.length_append] at ho3
  obtain ⟨X, cx, rfl, hX⟩ := OneB.of_own ho3 (fun x hx => (List.mem_append.1 hx).elim (HA.out.byte x) (HB.out.byte x))
  obtain ⟨ab, hab⟩ : ∃ ab, a ++ b = ab := ⟨_, rfl⟩
  rw [hab] at hX ho3 ⊢
  have N1 := Lib.hid (dsum_any X cx ab w3 hX (HH.out.later bb3)); have HX := Lib.hid hX
  have habl := hX.len
  clear ho3 hg3 b3 hX hab
  go_wp2_with fail
  refine N1.out.mono ?_
  rintro e w4 ⟨rfl, b4⟩
  have N2 := Lib.hid (rsum_any X cx ab w4 (HX.out.later b4))
  go_wp2_with fail
  refine N2.out.mono ?_
  rintro e w5 ⟨rfl, b5⟩
  have bb5 := below_on bb3 (below_on b4 b5)
  have N3 := Lib.hid (dsum_any A c a w5 (HA.out.later bb5) (HH.out.later bb5))
  go_wp2_with fail
  refine N3.out.mono ?_
  rintro e w6 ⟨rfl, b6⟩
  have N4 := Lib.hid (rsum_any A c a w6 (HA.out.later (below_on bb5 b6)))
  go_wp2_with fail
  refine N4.out.mono ?_
  rintro e w7 ⟨rfl, b7⟩
  go_wp2
  go_ret
  exact ⟨rfl, below_on bb5 (below_on b6 b7)⟩

set_option maxRecDepth 100000 in
set_option maxHeartbeats 3200000 in
theorem lawFCuts_any (A : Option Addr) (c : Nat) (l : List Int) (w : World) (hl : l.length ≤ 8388608) (h : OneB w A c l) (hH : Halves w) :
    Calls Tryd.prog 6 #[.slice A l.length c] w (Says (.bool true) w) := by
  have CA := Lib.hid (falive_any w hH); have HB := Lib.hid h; have HH := Lib.hid hH
  clear h hH
  go_enter Tryd.func6, Tryd.ntmps6
  go_wp2_with fail
  refine CA.out.mono ?_
  rintro e w1 ⟨rfl, b1⟩
  have N1 := Lib.hid (dcut_any A c l w1 hl (HB.out.later b1) (HH.out.later b1))
  go_wp2_with fail
  refine N1.out.mono ?_
  rintro e w2 ⟨v, cs, acc, at1, k, rfl, hown, hit, hst, b2⟩
  have bb2 := below_on b1 b2
  have N2 := Lib.hid (rcut_any A c l w2 hl (HB.out.later bb2))
  have H1 := Lib.hid hown; have HIT := Lib.hid hit; have HST := Lib.hid hst
  clear hown hit hst
  go_wp2_with fail
  refine N2.out.mono ?_
  rintro e w3 ⟨v3, cs3, acc3, at3, k3, rfl, hown3, hit3, hst3, b3⟩
  have he : (at1, acc) = (at3, acc3) := by rw [← HIT.out, ← hit3]; exact Fr.it_one HST.out hst3
  injection he with e1 e2
  subst e1 e2
  obtain ⟨X, cx, rfl, hX⟩ := (H1.out.later b3).one
  obtain ⟨Y, cy, rfl, hY⟩ := hown3.one
  have N3 := rlists_any X Y cx cy acc acc w3 hX hY
  rw [decide_eq_true rfl] at N3
  have N3 := Lib.hid N3
  have hat1 : (0 : Int) ≤ (at1 : Int) := by omega
  clear hX hY hown3 hit3 hst3
  go_wp2_with fail
  refine N3.out.mono ?_
  rintro e w4 ⟨rfl, b4⟩
  go_wp2
  go_ret
  exact ⟨rfl, below_on bb2 (below_on b3 b4)⟩
end Go.Proofs.YtobgbaejdamecaaDoor
