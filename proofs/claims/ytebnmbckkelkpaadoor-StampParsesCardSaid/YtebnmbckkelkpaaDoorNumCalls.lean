/-
  What telltaleref01's Number answers of any text: the number that its decimal digits spell, without noughts ahead and up to the greatest int, or that it is none.
-/
import Derived.Test.YtebnmbckkelkpaaDoorProg
import Derived.Test.YtebnmbckkelkpaaDoorNumPlain
import Derived.Tactics
import Derived.Tactics2
import Derived.WalkKit
import Derived.WalkSpells
import Derived.WalkLawsBesides
import Derived.OwnWalk
import Derived.Lib.Hide
import Derived.KernelRfl
import Derived.Laws.BitsAllLaws
namespace Go.Proofs.YtebnmbckkelkpaaDoor
open Go.RowKit

def NumPost (l : List UInt8) (w : World) (e : Ending) (w' : World) : Prop :=
  ∃ (v : Int) (b : Bool), e = .returned (.tuple #[.int .i64 v, .bool b]) ∧ w = w' ∧ (∀ u, Num.num l = some u → v = (u : Int) ∧ b = true) ∧ (Num.num l = none → b = false)

theorem NumPost.none {l : List UInt8} {w : World} (h : Num.num l = none) : NumPost l w (.returned (.tuple #[.int .i64 0, .bool false])) w :=
  ⟨0, false, rfl, rfl, (fun u hu => by rw [h] at hu; cases hu), fun _ => rfl⟩
theorem and_max (v : Nat) (h : v ≤ 9223372036854775807) : wrap64 (bits .and .u64 (v : Int) 9223372036854775807) = (v : Int) := by
  have h1 := u64_and_nat v 9223372036854775807 (by omega) (by omega)
  have h2 : v &&& 9223372036854775807 = v := by
    have := Nat.and_two_pow_sub_one_eq_mod v 63
    simp at this
    omega
  rw [h2] at h1
  rw [show ((9223372036854775807 : Nat) : Int) = 9223372036854775807 from rfl] at h1
  rw [h1]
  unfold wrap64
  omega
theorem NumPost.val {l : List UInt8} {w : World} (h : Num.num l = if Num.val l ≤ 9223372036854775807 then some (Num.val l) else Option.none) :
    NumPost l w (.returned (.tuple #[.int .i64 (wrap64 (bits .and .u64 (Num.val l : Int) 9223372036854775807)), .bool (decide ((Num.val l : Int) ≤ 9223372036854775807))])) w := by
  refine ⟨_, _, rfl, rfl, fun u hu => ?_, fun hn => ?_⟩
  · rw [h] at hu
    by_cases hv : Num.val l ≤ 9223372036854775807
    · rw [if_pos hv] at hu
      injection hu with hu
      subst hu
      exact ⟨and_max _ hv, decide_eq_true (by omega)⟩
    · rw [if_neg hv] at hu; cases hu
  · rw [h] at hn
    by_cases hv : Num.val l ≤ 9223372036854775807
    · rw [if_pos hv] at hn; cases hn
    · exact decide_eq_false (by omega)

theorem number_empty (w : World) : Calls Tryd.prog 16 #[.string ⟨#[]⟩] w fun e w' => e = .returned (.tuple #[.int .i64 0, .bool false]) ∧ w = w' := by
  go_enter Tryd.func16, Tryd.ntmps16
  go_wp2
  go_ret2
  simp

theorem number_long (s : ByteArray) (w : World) (h : 19 < s.size) (hm : s.size ≤ 9223372036854775807) : Calls Tryd.prog 16 #[.string s] w fun e w' => e = .returned (.tuple #[.int .i64 0, .bool false]) ∧ w = w' := by
  have h0 : ((s.size : Int) == 0) = false := beq_eq_false_iff_ne.2 (by omega)
  have h1 : decide ((19 : Int) < (s.size : Int)) = true := decide_eq_true (by omega)
  go_enter Tryd.func16, Tryd.ntmps16
  go_wp2
  go_ret2
  simp

theorem number_nought (s : ByteArray) (w : World) (h : 1 < s.size) (hm : s.size ≤ 19) (hz : s[0].toNat = 48) : Calls Tryd.prog 16 #[.string s] w fun e w' => e = .returned (.tuple #[.int .i64 0, .bool false]) ∧ w = w' := by
  have h0 : ((s.size : Int) == 0) = false := beq_eq_false_iff_ne.2 (by omega)
  have h1 : decide ((19 : Int) < (s.size : Int)) = false := decide_eq_false (by omega)
  have h2 : decide ((1 : Int) < (s.size : Int)) = true := decide_eq_true (by omega)
  have h3 : ((s[0].toNat : Int) == 48) = true := beq_iff_eq.2 (by omega)
  have hp : 0 < s.size := by omega
  clear hz
  go_enter Tryd.func16, Tryd.ntmps16
  go_wp2
  go_ret2
  simp

theorem byte_at (s : ByteArray) (k : Nat) (h : k < s.size) : s[k] = s.data.toList[k]'(by simpa using h) := rfl

set_option maxHeartbeats 1600000 in
theorem number_main (s : ByteArray) (w : World) (hp : 0 < s.size) (hm : s.size ≤ 19) (hc : ((s[0].toNat : Int) == 48) = false ∨ (((s[0].toNat : Int) == 48) = true ∧ decide ((1 : Int) < (s.size : Int)) = false))
    (hz : s.data.toList.length ≠ 1 → s.data.toList.head? ≠ some 48) :
    Calls Tryd.prog 16 #[.string s] w (NumPost s.data.toList w) := by
  have h0 : ((s.size : Int) == 0) = false := beq_eq_false_iff_ne.2 (by omega)
  have h1 : decide ((19 : Int) < (s.size : Int)) = false := decide_eq_false (by omega)
  have HZ := Lib.hid hz
  clear hz
  rcases hc with h3 | ⟨h3, h2⟩
  all_goals
    go_enter Tryd.func16, Tryd.ntmps16
    go_wp2_with fail
    clear h3 h0 h1
    try clear h2
    go_loop [4, 5] (fun s4 s5 => ∃ k : Nat, k ≤ s.size ∧ s5 = .int .i64 (k : Int) ∧ s4 = .int .u64 (Num.val (s.data.toList.take k) : Int) ∧ ∀ c ∈ s.data.toList.take k, Num.dig c = true) (fun _ s5 => s.size - (intOf s5).toNat)
    case atStart => exact ⟨0, Nat.zero_le _, rfl, rfl, by simp⟩
    case round =>
      obtain ⟨k, hk, rfl, rfl, hd⟩ := hrel
      have hv := Num.val_lt _ k hd
      have HD := Lib.hid hd
      clear hd
      by_cases hlt : k < s.size
      · have hv2 : Num.val (s.data.toList.take k) < 1000000000000000000 := Nat.lt_of_lt_of_le hv (Nat.pow_le_pow_right (by decide) (show k ≤ 18 by omega))
        clear hv
        have hkl : k < s.data.toList.length := by simpa using hlt
        have hst := Num.val_take s.data.toList k hkl
        rw [← byte_at s k hlt] at hst
        have HST := Lib.hid hst
        clear hst
        by_cases ha : (s[k].toNat : Int) < 48
        · have hbad : Num.num s.data.toList = none := Num.num_bad k hkl (by
            cases hh : Num.dig s.data.toList[k] with
            | false => rfl
            | true => have := Num.dig_iff.1 hh; rw [← byte_at s k hlt] at this; omega)
          have HB := Lib.hid hbad
          clear hbad
          have hd1 : decide ((s[k].toNat : Int) < 48) = true := decide_eq_true ha
          go_wp2_with fail
          go_ret2
          exact NumPost.none HB.out
        · by_cases hz : (57 : Int) < (s[k].toNat : Int)
          · have hbad : Num.num s.data.toList = none := Num.num_bad k hkl (by
              cases hh : Num.dig s.data.toList[k] with
              | false => rfl
              | true => have := Num.dig_iff.1 hh; rw [← byte_at s k hlt] at this; omega)
            have HB := Lib.hid hbad
            clear hbad
            have hd1 : decide ((s[k].toNat : Int) < 48) = false := decide_eq_false ha
            have hd2 : decide ((57 : Int) < (s[k].toNat : Int)) = true := decide_eq_true hz
            go_wp2_with fail
            go_ret2
            exact NumPost.none HB.out
          · have hd1 : decide ((s[k].toNat : Int) < 48) = false := decide_eq_false ha
            have hd2 : decide ((57 : Int) < (s[k].toNat : Int)) = false := decide_eq_false hz
            have hdk : Num.dig s[k] = true := Num.dig_iff.2 (by omega)
            have HDK := Lib.hid hdk
            clear hdk
            go_wp2_with fail
            go_round
            case rel =>
              refine ⟨k + 1, by omega, by go_num, ?_, ?_⟩
              · rw [HST.out]
                rw [show ((10 * Num.val (s.data.toList.take k) + (s[k].toNat - 48) : Nat) : Int) = 10 * (Num.val (s.data.toList.take k) : Int) + ((s[k].toNat : Int) - 48) from by omega]
              · rw [List.take_succ_eq_append_getElem hkl]
                intro c hc
                rcases List.mem_append.1 hc with hc | hc
                · exact HD.out c hc
                · rw [List.mem_singleton] at hc
                  subst hc
                  exact HDK.out
            case measure => simp [intOf]; omega
      · have hks : k = s.size := by omega
        subst hks
        have htk : s.data.toList.take s.size = s.data.toList := List.take_of_length_le (by simp)
        have hgood : Num.num s.data.toList = if Num.val s.data.toList ≤ 9223372036854775807 then some (Num.val s.data.toList) else Option.none :=
          Num.num_good (List.ne_nil_of_length_pos (by simpa using hp)) (by have := HD.out; rw [htk] at this; exact this) HZ.out
        have HG := Lib.hid hgood
        have HK := Lib.hid htk
        clear hgood htk
        go_wp2_with fail
        go_ret2
        show NumPost _ _ (.returned (.tuple #[.int .i64 (wrap64 (bits .and .u64 (Num.val (s.data.toList.take s.size) : Int) 9223372036854775807)), .bool (decide ((Num.val (s.data.toList.take s.size) : Int) ≤ 9223372036854775807))])) _
        rw [HK.out]
        exact NumPost.val HG.out

/-- telltaleref01's Number, of any text. -/
theorem number_any (s : ByteArray) (w : World) (hm : s.size ≤ 9223372036854775807) : Calls Tryd.prog 16 #[.string s] w (NumPost s.data.toList w) := by
  have hl : s.data.toList.length = s.size := Array.length_toList
  by_cases h0 : s.size = 0
  · obtain ⟨⟨l⟩⟩ := s
    have hln : l = [] := by
      have : l.length = 0 := by rw [← h0]; exact hl
      exact List.eq_nil_of_length_eq_zero this
    subst hln
    exact (number_empty w).mono fun e w' ⟨he, hw⟩ => by subst he; subst hw; exact NumPost.none Num.num_empty
  by_cases h1 : 19 < s.size
  · exact (number_long s w h1 hm).mono fun e w' ⟨he, hw⟩ => by subst he; subst hw; exact NumPost.none (Num.num_long (by omega))
  have hp : 0 < s.size := by omega
  have hh : s.data.toList.head? = some s[0] := by
    rw [List.head?_eq_getElem?, List.getElem?_eq_getElem (by omega)]; rfl
  by_cases hz : s[0].toNat = 48
  · have h48 : s[0] = 48 := UInt8.toNat_inj.1 (by simpa using hz)
    by_cases h2 : 1 < s.size
    · exact (number_nought s w h2 (by omega) hz).mono fun e w' ⟨he, hw⟩ => by subst he; subst hw; exact NumPost.none (Num.num_nought (by omega) (by rw [hh, h48]))
    · exact number_main s w hp (by omega) (.inr ⟨beq_iff_eq.2 (by omega), decide_eq_false (by omega)⟩) (fun h => absurd (by omega) h)
  · exact number_main s w hp (by omega) (.inl (beq_eq_false_iff_ne.2 (by omega))) (fun _ h => hz (by rw [hh] at h; injection h with h; rw [h]; rfl))

end Go.Proofs.YtebnmbckkelkpaaDoor
