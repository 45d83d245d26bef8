/-
  What pack's numberBytes answers.
-/
import Derived.Test.YtmcaehdhfpeadaaPkSpec
namespace Go.Proofs.Ytmcaehdhfpeadaa
open Go.RowKit

namespace Pk
theorem or_128 (m : Nat) : bits BinOp.or IntKind.u8 ((m : Int) % 256) 128 = (m : Int) % 128 + 128 := by
  have h : ∀ n : Fin 256, bits BinOp.or IntKind.u8 ((n.val : Nat) : Int) 128 = ((n.val % 128 + 128 : Nat) : Int) := by decide +kernel
  have k := h ⟨m % 256, by omega⟩
  simp only at k
  rw [show ((m : Int) % 256) = ((m % 256 : Nat) : Int) from by omega, k]
  omega
end Pk

set_option maxRecDepth 100000 in
set_option maxHeartbeats 1600000 in
theorem dnb_any (n : Nat) (w : World) (hn : n ≤ 9223372036854775807) : Calls Try.prog 24 #[.int .i64 (n : Int)] w (GivesB (Pk.bytesOf n) w) := by
  obtain ⟨i0, hi, hz0, hz1, hz2⟩ := info_parts infoBy
  have hpw : n < 128 ^ (9 + 1) := Nat.lt_of_le_of_lt hn (by decide)
  go_enter Try.func24, Try.ntmps24
  go_wp2_with fail
  go_loopw [0, 3] (fun s0 s3 wr => ∃ (f m : Nat) (pre : List Int), s0 = .int .i64 (m : Int) ∧ wr.ownsRow w.heap.size 5 1 s3 pre.length (bCells pre) ∧ pre ++ Pk.nb f m = Pk.bytesOf n ∧ m < 128 ^ (f + 1) ∧ m ≤ n ∧ pre.length + f = 9 ∧ Below w.heap.size w wr) (fun s0 _ _ => (intOf s0).toNat)
  case atStart => exact ⟨9, n, [], rfl, ⟨rfl, .inl ⟨rfl, rfl⟩⟩, rfl, hpw, Nat.le_refl _, rfl, Below.refl _ _⟩
  case round =>
    obtain ⟨f, m, pre, rfl, hown, hpre, hm, hmn, hf, hbw⟩ := hrel
    by_cases hge : 128 ≤ m
    · have hd : decide ((128 : Int) ≤ (m : Int)) = true := decide_eq_true (by omega)
      obtain ⟨f', rfl⟩ : ∃ f', f = f' + 1 := by
        cases f with
        | zero => simp at hm; omega
        | succ f' => exact ⟨f', rfl⟩
      have hnx : (pre ++ [(m : Int) % 128 + 128]) ++ Pk.nb f' (m / 128) = Pk.bytesOf n := by
        rw [← hpre, List.append_assoc]
        congr 1
        rw [Pk.nb, if_neg (by omega)]
        show ((m : Int) % 128 + 128) :: Pk.nb f' (m / 128) = _
        congr 1
      have hdv : m / 128 < 128 ^ (f' + 1) := by
        rw [Nat.div_lt_iff_lt_mul (by omega)]
        rw [Nat.pow_succ] at hm
        exact hm
      have hlt : m / 128 < m := by omega
      have hsz := hbw.size
      have HNX := Lib.hid hnx
      have HDV := Lib.hid hdv
      clear hnx hdv hpre hm
      go_wp2_with (at_builtin; refine wpList_append_lies _ rfl _ _ 22 rfl w.heap.size 5 i0 (.int .u8 0) 1 1 Try.underlying22 hi hz0 hz1 hz2 rfl (by decide) _ pre.length (bCells pre) rfl (hown.alloc _) (some ⟨wr.heap.size, 0, none⟩) 1 1 (fun h => by cases h) (bCells [bits BinOp.or IntKind.u8 ((m : Int) % 256) 128]) rfl rfl ?c1 (bCells_one _) ?c3 ?c4 ?c5 ?_)
      case c1 =>
        intro _
        refine ⟨wr.heap.size, 0, rfl, fun j u hu => ?_⟩
        rw [Nat.zero_add]
        exact (Blk.new wr 5 #[.int .u8 (bits BinOp.or IntKind.u8 ((m : Int) % 256) 128)]).cell (by simpa [bCells] using hu)
      case c3 => unfold maxLen; omega
      case c4 => omega
      case c5 => simp; omega
      intro v' w1 hown1 hg1 _
      have hb1 : Below w.heap.size w w1 := (below_new hbw _).grown hg1 (by simp; omega) (fun k' hk' => by have := own_ge hown _ hk'; omega)
      rw [← bCells_append, Pk.or_128 m, show pre.length + 1 = (pre ++ [(m : Int) % 128 + 128]).length from by simp] at hown1
      have HO := Lib.hid hown1
      clear hown1 hown hg1
      go_wp2_with fail
      go_roundw
      case rel => exact ⟨f', m / 128, pre ++ [(m : Int) % 128 + 128], by first | rfl | simp, HO.out, HNX.out, HDV.out, by omega, by simp; omega, hb1⟩
      case measure => simp [intOf]; omega
    · have hd : decide ((128 : Int) ≤ (m : Int)) = false := decide_eq_false (by omega)
      have hone : Pk.nb f m = [(m : Int)] := by
        cases f with
        | zero => rfl
        | succ f' => rw [Pk.nb, if_pos (by omega)]
      have hfin : pre ++ [(m : Int)] = Pk.bytesOf n := by rw [← hpre, hone]
      have hsz := hbw.size
      have HFIN := Lib.hid hfin
      clear hone hfin hpre hm
      go_wp2_with (at_builtin; refine wpList_append_lies _ rfl _ _ 22 rfl w.heap.size 5 i0 (.int .u8 0) 1 1 Try.underlying22 hi hz0 hz1 hz2 rfl (by decide) _ pre.length (bCells pre) rfl (hown.alloc _) (some ⟨wr.heap.size, 0, none⟩) 1 1 (fun h => by cases h) (bCells [(m : Int)]) rfl rfl ?c1 (bCells_one _) ?c3 ?c4 ?c5 ?_)
      case c1 =>
        intro _
        refine ⟨wr.heap.size, 0, rfl, fun j u hu => ?_⟩
        rw [Nat.zero_add]
        exact (Blk.new wr 5 #[.int .u8 ((m : Int))]).cell (by simpa [bCells] using hu)
      case c3 => unfold maxLen; omega
      case c4 => omega
      case c5 => simp; omega
      intro v' w1 hown1 hg1 _
      have hb1 : Below w.heap.size w w1 := (below_new hbw _).grown hg1 (by simp; omega) (fun k' hk' => by have := own_ge hown _ hk'; omega)
      rw [← bCells_append, show pre.length + 1 = (pre ++ [(m : Int)]).length from by simp] at hown1
      have HO := Lib.hid hown1
      clear hown1 hown hg1
      go_wp2
      go_ret
      exact ⟨_, rfl, by rw [← HFIN.out]; exact HO.out, hb1⟩

end Go.Proofs.Ytmcaehdhfpeadaa
