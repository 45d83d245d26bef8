/-
  What pack's Len answers.
-/
import Derived.Test.YtmcaehdhfpeadaaPkSpec
import Derived.Test.YtmcaehdhfpeadaaShelf
namespace Go.Proofs.Ytmcaehdhfpeadaa
open Go.RowKit

namespace Pk
theorem bl_small (n : Nat) (h : n < 128) : Lib.bitLen n ≤ 7 := Lib.bitLen_le n 7 (by omega) (by simpa using h)
theorem bl_nb : ∀ f n, n < 128 ^ (f + 1) → n < 2 ^ 64 → (nb f n).length = max 1 ((Lib.bitLen n + 6) / 7)
  | 0, n, h, _ => by
    have := bl_small n (by simpa using h)
    show 1 = max 1 ((Lib.bitLen n + 6) / 7)
    omega
  | f + 1, n, h, h64 => by
    unfold nb
    split
    · rename_i hn
      have := bl_small n hn
      show 1 = max 1 ((Lib.bitLen n + 6) / 7)
      omega
    · rename_i hn
      have hd : n / 128 < 128 ^ (f + 1) := by
        rw [Nat.div_lt_iff_lt_mul (by omega)]
        rw [Nat.pow_succ] at h
        exact h
      have ih := bl_nb f (n / 128) hd (by omega)
      have h1 : Lib.bitLen n = 7 + Lib.bitLen (n / 128) := Lib.bitLen_shift 7 n (by omega) h64
      have h2 := Lib.bitLen_half (n / 128) (by omega) (by omega)
      rw [List.length_cons, ih, h1]
      omega
end Pk

set_option maxHeartbeats 800000 in
theorem dlen_any (n : Int) (w : World) (h0 : -9223372036854775808 ≤ n) (h1 : n ≤ 9223372036854775807) : Calls Try.prog 13 #[.int .i64 n] w (Says (.int .i64 (Pk.lenOf n)) w) := by
  by_cases hn : n < 0
  · have hd : decide (n < 0) = true := decide_eq_true hn
    have he : Pk.lenOf n = 0 := by unfold Pk.lenOf; rw [if_pos hn]
    rw [he]
    clear he
    go_enter Try.func13, Try.ntmps13
    go_wp2
    go_ret
    exact ⟨rfl, Below.refl _ _⟩
  · have hd : decide (n < 0) = false := decide_eq_false hn
    obtain ⟨m, rfl⟩ := Int.eq_ofNat_of_zero_le (show 0 ≤ n by omega)
    have he : Pk.lenOf (m : Int) = max 1 (((Lib.bitLen m : Int) + 7 - 1) / 7) := by
      unfold Pk.lenOf
      rw [if_neg hn, Int.toNat_natCast]
      have := Pk.bl_nb 9 m (Nat.lt_of_le_of_lt (show m ≤ 9223372036854775807 by omega) (by decide)) (by omega)
      unfold Pk.bytesOf
      omega
    have hb64 := Lib.bitLen_le m 64 (Nat.le_refl _) (by omega)
    have N1 := Lib.hid (show ∀ w, Calls Try.prog 25 #[.int .u64 (m : Int)] w fun e w' => e = .returned (.int .i64 (Lib.bitLen m : Int)) ∧ w' = w from fun w => by
      have k := Try.bits_Len (m : Int) w (by omega) (by omega)
      rwa [Int.toNat_natCast] at k)
    rw [he]
    clear he
    obtain ⟨b, hb⟩ : ∃ b, Lib.bitLen m = b := ⟨_, rfl⟩
    rw [hb] at N1 hb64 ⊢
    clear hb
    go_enter Try.func13, Try.ntmps13
    go_wp2_with fail
    refine (N1.out _).mono ?_
    rintro e w1 ⟨rfl, rfl⟩
    go_wp2
    go_ret
    exact ⟨rfl, Below.refl _ _⟩

end Go.Proofs.Ytmcaehdhfpeadaa
