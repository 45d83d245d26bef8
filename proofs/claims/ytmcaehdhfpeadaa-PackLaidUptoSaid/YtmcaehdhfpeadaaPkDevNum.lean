/-
  What pack's Number answers.
-/
import Derived.Test.YtmcaehdhfpeadaaPkSpec
import Derived.Laws.BitsLemmas
namespace Go.Proofs.Ytmcaehdhfpeadaa
open Go.RowKit

namespace Pk
theorem val_take : ∀ (l : List Int) (i : Nat), i < l.length → val (l.take (i + 1)) = val (l.take i) + l.getD i 0 % 128 * 128 ^ i
  | [], i, h => by simp at h
  | b :: r, 0, _ => by
    show 0 * 128 + b % 128 = 0 + b % 128 * 128 ^ 0
    omega
  | b :: r, i + 1, h => by
    have ih := val_take r i (by simpa using h)
    show val (r.take (i + 1)) * 128 + b % 128 = val (r.take i) * 128 + b % 128 + r.getD i 0 % 128 * 128 ^ (i + 1)
    rw [ih, Int.pow_succ, Int.add_mul, ← Int.mul_assoc]
    omega
theorem val_bd0 (l : List Int) (i : Nat) (h : ∀ x ∈ l, isB x) (hi : i ≤ l.length) : 0 ≤ val (l.take i) ∧ val (l.take i) < 128 ^ i := by
  obtain ⟨v, h1, h2⟩ := val_nat (l.take i) (fun x hx => h x (List.mem_of_mem_take hx))
  rw [List.length_take, Nat.min_eq_left hi] at h2
  rw [h1]
  exact ⟨by omega, by exact_mod_cast h2⟩
theorem lead_done (k : Nat) (l : List Int) (i : Nat) (hi : i < k) (hl : i < l.length) (h : ∀ j, j < i → 128 ≤ l.getD j 0) (h2 : l.getD i 0 < 128) : lead k l = i := by
  have h1 := lead_at k l i (by omega) (by omega) h
  rcases Nat.lt_or_ge i (lead k l) with h3 | h3
  · have := lead_high k l i h3
    omega
  · omega
theorem and_127 (x : Int) (h0 : 0 ≤ x) (h1 : x < 256) : bits BinOp.and IntKind.u8 x 127 = x % 128 := bits_mask .u8 8 (by decide) wraps_u8 7 (by decide) x h0 (by omega)
theorem wraps63 (n : Int) (h0 : 0 ≤ n) (h1 : n < 2 ^ 63) : IntKind.i64.wrap n = n := by
  have e : (2 : Int) ^ 63 = 9223372036854775808 := by decide
  rw [e] at h1
  rw [IntKind.wrap_i64]
  omega
theorem or_low (i : Nat) (v y : Int) (hv0 : 0 ≤ v) (hv1 : v < 2 ^ i) (hy0 : 0 ≤ y) (hm : y % 2 ^ i = 0) (hy1 : y < 2 ^ 63) (hv : v < 2 ^ 63) : bits BinOp.or IntKind.i64 v y = v + y := by
  obtain ⟨a, rfl⟩ := Int.eq_ofNat_of_zero_le hv0
  obtain ⟨b, rfl⟩ := Int.eq_ofNat_of_zero_le hy0
  have e : (2 : Int) ^ 63 = 9223372036854775808 := by decide
  have e' : (2 : Nat) ^ 63 = 9223372036854775808 := by decide
  have h1 := (bits_nat .i64 63 (by decide) wraps63 a b (by omega) (by omega)).2
  have h2 := (bits_nat .i64 63 (by decide) wraps63 b a (by omega) (by omega)).2
  have h3 := bits_join .i64 63 (by decide) wraps63 i (b : Int) (a : Int) hy0 hm hy1 hv0 hv1 hv
  rw [h1, Nat.or_comm, ← h2, h3]
  omega
theorem group (i : Nat) (hi : i ≤ 8) (v x : Int) (hv0 : 0 ≤ v) (hv1 : v < 128 ^ i) (hx0 : 0 ≤ x) (hx1 : x < 256) : bits BinOp.or IntKind.i64 v (wrap64 (wrap64 (bits BinOp.and IntKind.u8 x 127) * 2 ^ (i * 7))) = v + x % 128 * 128 ^ i := by
  have hp : (2 : Int) ^ (i * 7) = 128 ^ i := by rw [Nat.mul_comm, Int.pow_mul]; rfl
  rw [and_127 x hx0 hx1, IntWalk.wrap64_in (x % 128) (by omega), hp]
  have e : (2 : Int) ^ 63 = 9223372036854775808 := by decide
  have hb : ∀ j : Nat, j ≤ 8 → (128 : Int) ^ j ≤ 72057594037927936 ∧ 1 ≤ (128 : Int) ^ j := by decide
  have hbi := hb i hi
  have hmul : x % 128 * 128 ^ i ≤ 127 * 72057594037927936 := Int.mul_le_mul (by omega) hbi.1 (by omega) (by omega)
  have hnn : 0 ≤ x % 128 * 128 ^ i := Int.mul_nonneg (by omega) (by omega)
  rw [IntWalk.wrap64_in _ (by omega)]
  refine or_low (i * 7) v _ hv0 (by rw [hp]; exact hv1) hnn (by rw [hp]; exact Int.mul_emod_left _ _) (by omega) (by omega)
end Pk

set_option maxHeartbeats 3200000 in
set_option maxRecDepth 100000 in
theorem dnum_any (A : Option Addr) (c1 : Nat) (l : List Int) (w : World) (h1 : OneB w A c1 l) :
    Calls Try.prog 16 #[.slice A l.length c1] w (Says (Pk.numV (Pk.num l)) w) := by
  by_cases hne : l = []
  · subst hne
    have hA := h1.noA
    clear h1
    cases A with
    | none =>
      obtain ⟨-, rfl⟩ := hA rfl
      go_enter Try.func16, Try.ntmps16
      go_wp2
      go_loopw [13] (fun s13 wr => s13 = .int .i64 0 ∧ wr = w) (fun _ _ => 0)
      case atStart => exact ⟨rfl, rfl⟩
      case round =>
        obtain ⟨rfl, rfl⟩ := hrel
        go_wp2
        go_ret3
        exact ⟨rfl, Below.refl _ _⟩
    | some a =>
      clear hA
      go_enter Try.func16, Try.ntmps16
      go_wp2
      go_loopw [13] (fun s13 wr => s13 = .int .i64 0 ∧ wr = w) (fun _ _ => 0)
      case atStart => exact ⟨rfl, rfl⟩
      case round =>
        obtain ⟨rfl, rfl⟩ := hrel
        go_wp2
        go_ret3
        exact ⟨rfl, Below.refl _ _⟩
  · obtain ⟨b, off, hA, hcell⟩ := h1.at hne
    subst hA
    have hbyte := h1.byte
    have hle := h1.le
    have hlen := h1.len
    have hcap := h1.cap
    unfold maxLen at hcap
    have HB := Lib.hid hbyte
    have HC := Lib.hid hcell
    have HN := Lib.hid hne
    clear h1 hbyte hcell hne
    by_cases h9 : (l.length : Int) ≤ 9
    · have hd9 : decide ((l.length : Int) ≤ 9) = true := decide_eq_true h9
      go_enter Try.func16, Try.ntmps16
      go_wp2_with fail
      go_loopw [2, 5, 6, 13] (fun s2 s5 s6 s13 wr => ∃ i : Nat, i ≤ l.length ∧ s13 = .int .i64 (i : Int) ∧ s2 = .int .i64 (Pk.val (l.take i)) ∧ (∀ j, j < i → 128 ≤ l.getD j 0) ∧ w = wr) (fun _ _ _ s13 _ => l.length - (intOf s13).toNat)
      case atStart => exact ⟨0, by omega, rfl, rfl, fun j hj => by omega, rfl⟩
      case round =>
        obtain ⟨i, hi, rfl, rfl, hhi, hwr⟩ := hrel
        subst hwr
        by_cases him : i < l.length
        · have hd : decide ((i : Int) < (l.length : Int)) = true := decide_eq_true (by omega)
          have c0 := HC.out i (by omega)
          have hil : i < l.length := by omega
          have hxb : isB (l.getD i 0) := HB.out _ (by rw [List.getD_eq_getElem?_getD, List.getElem?_eq_getElem hil]; exact List.getElem_mem hil)
          have hstep := Pk.val_take l i hil
          have hbd := Pk.val_bd0 l i HB.out (by omega)
          have hlead := Pk.lead_at 9 l i (by omega) (by omega) hhi
          have hdone := fun (h : l.getD i 0 < 128) => Pk.lead_done 9 l i (by omega) hil hhi h
          obtain ⟨x, hx⟩ : ∃ x, l.getD i 0 = x := ⟨_, rfl⟩
          rw [hx] at c0 hxb hstep hdone
          unfold isB at hxb
          have HX := Lib.hid hx
          have HG := Lib.hid (Pk.group i (by omega) (Pk.val (l.take i)) x hbd.1 hbd.2 hxb.1 hxb.2)
          have HST := Lib.hid hstep
          have HHI := Lib.hid hhi
          have HD := Lib.hid hdone
          obtain ⟨v, hv⟩ : ∃ v, Pk.val (l.take i) = v := ⟨_, rfl⟩
          rw [hv] at HG HST
          rw [hv]
          clear hhi hstep hbd hx hdone hlead hv
          rcases Int.lt_or_le x 128 with hx8 | hx8
          · have hd8 : decide (x < 128) = true := decide_eq_true hx8
            by_cases hz : x = 0 ∧ 0 < i
            · obtain ⟨hz1, hz2⟩ := hz
              have hnum : Pk.num l = (0, 0, 4) := Pk.num_zero (by rw [HD.out hx8]; omega) (by rw [HD.out hx8]; omega) (by rw [HD.out hx8, HX.out]; exact hz1) (by rw [HD.out hx8]; omega)
              have HN2 := Lib.hid hnum
              clear hnum HG HST
              subst hz1
              have hdi : decide ((0 : Int) < (i : Int)) = true := decide_eq_true (by omega)
              go_wp2
              go_ret3
              exact ⟨by rw [HN2.out]; rfl, Below.refl _ _⟩
            · have hnum : Pk.num l = (v + x % 128 * 128 ^ i, (i : Int) + 1, 0) := by rw [Pk.num_yes (by rw [HD.out hx8]; omega) (by rw [HD.out hx8]; omega) (by rw [HD.out hx8, HX.out]; exact hz), HD.out hx8, HST.out]
              have HN2 := Lib.hid hnum
              clear hnum HST
              by_cases hx0 : x = 0
              · have hI0 : i = 0 := by
                  rcases Nat.eq_zero_or_pos i with h | h
                  · exact h
                  · exact absurd ⟨hx0, h⟩ hz
                have HI0 := Lib.hid hI0
                subst hx0
                clear hz hI0
                go_wp2
                · rename_i hp
                  have := HI0.out
                  omega
                · go_ret3
                  exact ⟨by rw [HN2.out, ← HG.out]; rfl, Below.refl _ _⟩
              · have hdx : decide (x = 0) = false := decide_eq_false hx0
                clear hz
                go_wp2
                go_ret3
                exact ⟨by rw [HN2.out, ← HG.out]; rfl, Below.refl _ _⟩
          · have hd8 : decide (x < 128) = false := decide_eq_false (by omega)
            have hx0 : ¬ x = 0 := by omega
            have hdx : decide (x = 0) = false := decide_eq_false hx0
            go_wp2_with fail
            go_roundw
            case rel => exact ⟨i + 1, by omega, by first | rfl | (congr 1; omega), by rw [HG.out, HST.out], fun j hj => by
              rcases Nat.lt_or_ge j i with h | h
              · exact HHI.out j h
              · obtain rfl : j = i := by omega
                rw [HX.out]
                exact hx8, by first | rfl | trivial⟩
            case measure => simp [intOf]; omega
        · obtain rfl : i = l.length := by omega
          have hlead := Pk.lead_at 9 l _ (by omega) (by omega) hhi
          have hll := Pk.lead_le 9 l
          have hd : decide ((l.length : Int) < (l.length : Int)) = false := decide_eq_false (by omega)
          rcases Nat.lt_or_ge l.length 9 with h8 | h8
          · have hd2 : decide ((l.length : Int) < 9) = true := decide_eq_true (by omega)
            have HN2 := Lib.hid (Pk.num_short (l := l) (by omega) (by omega))
            clear hlead hll hhi
            go_wp2
            go_ret3
            exact ⟨by rw [HN2.out]; rfl, Below.refl _ _⟩
          · have hd2 : decide ((l.length : Int) < 9) = false := decide_eq_false (by omega)
            have HN2 := Lib.hid (Pk.num_nine (l := l) (by omega))
            clear hlead hll hhi
            go_wp2
            go_ret3
            exact ⟨by rw [HN2.out]; rfl, Below.refl _ _⟩
    · have hd9 : decide ((l.length : Int) ≤ 9) = false := decide_eq_false h9
      go_enter Try.func16, Try.ntmps16
      go_wp2_with fail
      go_loopw [2, 5, 6, 13] (fun s2 s5 s6 s13 wr => ∃ i : Nat, i ≤ 9 ∧ s13 = .int .i64 (i : Int) ∧ s2 = .int .i64 (Pk.val (l.take i)) ∧ (∀ j, j < i → 128 ≤ l.getD j 0) ∧ w = wr) (fun _ _ _ s13 _ => 9 - (intOf s13).toNat)
      case atStart => exact ⟨0, by omega, rfl, rfl, fun j hj => by omega, rfl⟩
      case round =>
        obtain ⟨i, hi, rfl, rfl, hhi, hwr⟩ := hrel
        subst hwr
        by_cases him : i < 9
        · have hd : decide ((i : Int) < (9 : Int)) = true := decide_eq_true (by omega)
          have c0 := HC.out i (by omega)
          have hil : i < l.length := by omega
          have hxb : isB (l.getD i 0) := HB.out _ (by rw [List.getD_eq_getElem?_getD, List.getElem?_eq_getElem hil]; exact List.getElem_mem hil)
          have hstep := Pk.val_take l i hil
          have hbd := Pk.val_bd0 l i HB.out (by omega)
          have hlead := Pk.lead_at 9 l i (by omega) (by omega) hhi
          have hdone := fun (h : l.getD i 0 < 128) => Pk.lead_done 9 l i (by omega) hil hhi h
          obtain ⟨x, hx⟩ : ∃ x, l.getD i 0 = x := ⟨_, rfl⟩
          rw [hx] at c0 hxb hstep hdone
          unfold isB at hxb
          have HX := Lib.hid hx
          have HG := Lib.hid (Pk.group i (by omega) (Pk.val (l.take i)) x hbd.1 hbd.2 hxb.1 hxb.2)
          have HST := Lib.hid hstep
          have HHI := Lib.hid hhi
          have HD := Lib.hid hdone
          obtain ⟨v, hv⟩ : ∃ v, Pk.val (l.take i) = v := ⟨_, rfl⟩
          rw [hv] at HG HST
          rw [hv]
          clear hhi hstep hbd hx hdone hlead hv
          rcases Int.lt_or_le x 128 with hx8 | hx8
          · have hd8 : decide (x < 128) = true := decide_eq_true hx8
            by_cases hz : x = 0 ∧ 0 < i
            · obtain ⟨hz1, hz2⟩ := hz
              have hnum : Pk.num l = (0, 0, 4) := Pk.num_zero (by rw [HD.out hx8]; omega) (by rw [HD.out hx8]; omega) (by rw [HD.out hx8, HX.out]; exact hz1) (by rw [HD.out hx8]; omega)
              have HN2 := Lib.hid hnum
              clear hnum HG HST
              subst hz1
              have hdi : decide ((0 : Int) < (i : Int)) = true := decide_eq_true (by omega)
              go_wp2
              go_ret3
              exact ⟨by rw [HN2.out]; rfl, Below.refl _ _⟩
            · have hnum : Pk.num l = (v + x % 128 * 128 ^ i, (i : Int) + 1, 0) := by rw [Pk.num_yes (by rw [HD.out hx8]; omega) (by rw [HD.out hx8]; omega) (by rw [HD.out hx8, HX.out]; exact hz), HD.out hx8, HST.out]
              have HN2 := Lib.hid hnum
              clear hnum HST
              by_cases hx0 : x = 0
              · have hI0 : i = 0 := by
                  rcases Nat.eq_zero_or_pos i with h | h
                  · exact h
                  · exact absurd ⟨hx0, h⟩ hz
                have HI0 := Lib.hid hI0
                subst hx0
                clear hz hI0
                go_wp2
                · rename_i hp
                  have := HI0.out
                  omega
                · go_ret3
                  exact ⟨by rw [HN2.out, ← HG.out]; rfl, Below.refl _ _⟩
              · have hdx : decide (x = 0) = false := decide_eq_false hx0
                clear hz
                go_wp2
                go_ret3
                exact ⟨by rw [HN2.out, ← HG.out]; rfl, Below.refl _ _⟩
          · have hd8 : decide (x < 128) = false := decide_eq_false (by omega)
            have hx0 : ¬ x = 0 := by omega
            have hdx : decide (x = 0) = false := decide_eq_false hx0
            go_wp2_with fail
            go_roundw
            case rel => exact ⟨i + 1, by omega, by first | rfl | (congr 1; omega), by rw [HG.out, HST.out], fun j hj => by
              rcases Nat.lt_or_ge j i with h | h
              · exact HHI.out j h
              · obtain rfl : j = i := by omega
                rw [HX.out]
                exact hx8, by first | rfl | trivial⟩
            case measure => simp [intOf]; omega
        · obtain rfl : i = 9 := by omega
          have hlead := Pk.lead_at 9 l _ (by omega) (by omega) hhi
          have hll := Pk.lead_le 9 l
          have hd2 : decide ((l.length : Int) < 9) = false := decide_eq_false (by omega)
          have HN2 := Lib.hid (Pk.num_nine (l := l) (by omega))
          clear hlead hll hhi
          go_wp2
          go_ret3
          exact ⟨by rw [HN2.out]; rfl, Below.refl _ _⟩

end Go.Proofs.Ytmcaehdhfpeadaa
