/-
  telltaleref07's Sum: eight shifts a byte.
-/
import Derived.Test.YtobgbaejdamecaaDoorFrShift
namespace Go.Proofs.YtobgbaejdamecaaDoor
open Go.RowKit

theorem Fr.run_take (c : Nat) (l : List Int) (k : Nat) (hk : k < l.length) : Fr.run c (l.take (k + 1)) = Fr.byte8 (Fr.run c (l.take k)) (l.getD k 0) := by
  rw [List.take_succ_eq_append_getElem hk, Fr.run_append, List.getD_eq_getElem?_getD, List.getElem?_eq_getElem hk]
  rfl
theorem Fr.steps_succ (n c : Nat) : Fr.steps (n + 1) c = Fr.step (Fr.steps n c) := by
  rw [Fr.steps_add n 1]
  rfl

set_option maxHeartbeats 3200000 in
theorem rsum_any (A : Option Addr) (c : Nat) (l : List Int) (w : World) (h : OneB w A c l) :
    Calls Tryd.prog 12 #[.slice A l.length c] w (Says (.int .u32 ((Fr.sum l : Nat) : Int)) w) := by
  have hll := h.len
  have H := Lib.hid h
  clear h
  go_enter Tryd.func12, Tryd.ntmps12
  go_wp2_with fail
  go_loopw [3, 4, 5] (fun s3 s4 s5 wr => ∃ k : Nat, k ≤ l.length ∧ s4 = .int .i64 (k : Int) ∧ s3 = .int .u32 ((Fr.run 4294967295 (l.take k) : Nat) : Int) ∧ wr = w) (fun _ s4 _ _ => l.length - (intOf s4).toNat)
  case atStart => exact ⟨0, by omega, rfl, rfl, rfl⟩
  case round =>
    obtain ⟨k, hk, rfl, rfl, hwr⟩ := hrel
    have hwr := hwr.symm
    subst hwr
    have hr := Fr.run_lt (l.take k) 4294967295 (by omega) (fun x hx => H.out.byte x (List.mem_of_mem_take hx))
    by_cases hkm : k < l.length
    · have hd : decide ((k : Int) < (l.length : Int)) = true := decide_eq_true (by omega)
      obtain ⟨g, off, rfl, hc⟩ := H.out.at (by intro e; rw [e] at hkm; simp at hkm)
      have c0 := hc k hkm
      have hcap := H.out.cap
      have hle := H.out.le
      unfold maxLen at hcap
      have hbx : isB (l.getD k 0) := by
        rw [List.getD_eq_getElem?_getD, List.getElem?_eq_getElem hkm]
        exact H.out.byte _ (List.getElem_mem hkm)
      have hnx := Fr.run_take 4294967295 l k hkm
      obtain ⟨r, hre⟩ : ∃ r, Fr.run 4294967295 (l.take k) = r := ⟨_, rfl⟩
      obtain ⟨x, hxe⟩ : ∃ x, l.getD k 0 = x := ⟨_, rfl⟩
      rw [hre] at hr hnx ⊢
      rw [hxe] at c0 hbx hnx
      have hbx' := hbx
      unfold isB at hbx'
      have hx := u32_xor_nat r x.toNat hr (by omega)
      rw [show ((x.toNat : Nat) : Int) = x from by omega] at hx
      have hq := Fr.xor_lt hr (show x.toNat < 4294967296 by omega)
      unfold Fr.byte8 at hnx
      obtain ⟨q, hqe⟩ : ∃ q, r ^^^ x.toNat = q := ⟨_, rfl⟩
      rw [hqe] at hx hq hnx
      have HN := Lib.hid hnx
      clear hre hxe hqe hc hnx hbx
      go_wp2_with fail
      go_loopw [3, 5] (fun s3 s5 wr => ∃ j : Nat, j ≤ 8 ∧ s5 = .int .i64 (j : Int) ∧ s3 = .int .u32 ((Fr.steps j q : Nat) : Int) ∧ wr = w) (fun _ s5 _ => 8 - (intOf s5).toNat)
      case atStart => exact ⟨0, by omega, rfl, rfl, rfl⟩
      case round =>
        obtain ⟨j, hj, rfl, rfl, hwr⟩ := hrel
        have hwr := hwr.symm
        subst hwr
        have hs := Fr.steps_lt j q hq
        by_cases hj8 : j < 8
        · have hd8 : decide ((j : Int) < 8) = true := decide_eq_true (by omega)
          have hst := Fr.steps_succ j q
          obtain ⟨y, hye⟩ : ∃ y, Fr.steps j q = y := ⟨_, rfl⟩
          rw [hye] at hs hst ⊢
          unfold Fr.step Fr.low at hst
          have hxp := u32_xor_nat (y / 2) 3988292384 (by omega) (by omega)
          rcases Nat.mod_two_eq_zero_or_one y with hp | hp
          · have hpd : ((y : Int) % 2 == 1) = false := beq_eq_false_iff_ne.2 (by omega)
            rw [hp] at hst
            simp only [Nat.zero_ne_one, if_false, Nat.xor_zero] at hst
            have HS := Lib.hid hst
            clear hst hye hxp hp
            go_wp2_with fail
            go_roundw
            case rel => exact ⟨j + 1, by omega, by first | rfl | (congr 1; omega), by rw [HS.out]; first | rfl | (congr 1; omega), by first | rfl | trivial⟩
            case measure => simp [intOf]; omega
          · have hpd : ((y : Int) % 2 == 1) = true := beq_iff_eq.2 (by omega)
            rw [hp] at hst
            simp only [if_true] at hst
            unfold Fr.poly at hst
            rw [← hst] at hxp
            have HX := Lib.hid hxp
            clear hst hye hxp hp
            go_wp2_with fail
            go_roundw
            case rel => exact ⟨j + 1, by omega, by first | rfl | (congr 1; omega), by rw [← HX.out]; first | rfl | (congr 1; omega), by first | rfl | trivial⟩
            case measure => simp [intOf]; omega
        · obtain rfl : j = 8 := by omega
          have hd8 : decide (((8 : Nat) : Int) < 8) = false := by decide
          obtain ⟨y, hye⟩ : ∃ y, Fr.steps 8 q = y := ⟨_, rfl⟩
          have HN2 := Lib.hid (HN.out.trans hye)
          rw [hye]
          clear hye
          go_wp2_with fail
          go_roundw
          case rel => exact ⟨k + 1, by omega, by first | rfl | (congr 1; omega), by rw [HN2.out], by first | rfl | trivial⟩
          case measure => simp [intOf]; omega
    · obtain rfl : k = l.length := by omega
      have hd : decide ((l.length : Int) < (l.length : Int)) = false := decide_eq_false (by omega)
      rw [List.take_length] at hr ⊢
      have hsum : ((Fr.sum l : Nat) : Int) = 4294967295 - ((Fr.run 4294967295 l : Nat) : Int) := by
        unfold Fr.sum
        omega
      obtain ⟨r, hre⟩ : ∃ r, Fr.run 4294967295 l = r := ⟨_, rfl⟩
      rw [hre] at hr hsum ⊢
      have HSUM := Lib.hid hsum
      clear hre hsum
      go_wp2
      go_ret
      exact ⟨by rw [HSUM.out]; rfl, Below.refl _ _⟩
end Go.Proofs.YtobgbaejdamecaaDoor
