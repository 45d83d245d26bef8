/-
  What telltaleref05's Copy, Same and Bytes answer.
-/
import Derived.Test.YtmccednfaemiaaaProg
import Derived.Test.YtmccednfaemiaaaByPlain
import Derived.Tactics
import Derived.Tactics2
import Derived.WalkKit
import Derived.WalkSpells
import Derived.OwnWalk
import Derived.Deep.QuietTactic
import Derived.BigQuiet
import Derived.Deep.RegionHeld3
import Derived.KernelRfl
import Derived.Lib.Hide
import Derived.Laws.Rows
import Derived.Laws.Tables
import Derived.Laws.CopyOwn
import Derived.Laws.ResultCell
import Derived.Deep.DeepCutAuto
import Derived.RegionTactic
import Derived.BigRegion
namespace Go.Proofs.Ytmccednfaemiaaa
open Go.RowKit

theorem infoBy : (Try.prog.info? 5).map (fun i => (i.zero, i.size, i.bytes)) = some (some (.int .u8 0), 1, 1) := by kernel_rfl

/-- A list of bytes is answered, in memory of the call's own; what was there before is as it was. -/
def GivesB (l : List Int) (w : World) (e : Ending) (w' : World) : Prop :=
  ∃ v, e = .returned v ∧ w'.ownsRow w.heap.size 5 1 v l.length (bCells l) ∧ Below w.heap.size w w'

set_option maxHeartbeats 800000 in
theorem bcopy_any (A : Option Addr) (c1 : Nat) (l : List Int) (w : World) (hl : l.length ≤ 140737488355328) (h1 : OneB w A c1 l) :
    Calls Try.prog 26 #[.slice A l.length c1] w (GivesB l w) := by
  obtain ⟨i0, hi, hz0, hz1, hz2⟩ := info_parts infoBy
  have hown : (w.alloc (.cells #[] 5)).ownsRow w.heap.size 5 1 (.slice (some ⟨w.heap.size, 0, none⟩) 0 0) 0 [] :=
    ⟨rfl, .inr ⟨w.heap.size, 0, #[], rfl, Nat.le_refl _, heap_alloc_new w _, Nat.le_refl _, Nat.zero_le _, rfl, rfl⟩⟩
  have HA := Lib.hid h1.noA
  go_enter Try.func26, Try.ntmps26
  go_wp2_with (at_builtin; refine wpList_append_lies _ rfl _ _ 28 rfl w.heap.size 5 i0 (.int .u8 0) 1 1 Try.underlying28 hi hz0 hz1 hz2 rfl (by decide) _ 0 [] rfl hown A l.length c1 HA.out (bCells l) rfl (by rw [bCells_length, Nat.mul_one]) (h1.lies.alloc _) (bCells_one l) ?c3 ?c4 ?c5 ?_)
  case c3 => unfold maxLen; omega
  case c4 => omega
  case c5 => simp
  intro v' w1 hown1 hg1 _
  have hbw : Below w.heap.size w w1 := (below_new (Below.refl _ _) (.cells #[] 5)).grown hg1 (by simp) (by intro k hk; simp [Value.ownBlock] at hk; omega)
  try simp only [Nat.zero_add, List.nil_append] at hown1
  have HO := Lib.hid hown1
  clear hown hown1 hg1
  go_wp2
  go_ret
  exact ⟨_, rfl, HO.out, hbw⟩

set_option maxHeartbeats 800000 in
theorem bsame_any (A B : Option Addr) (c1 c2 : Nat) (l r : List Int) (w : World) (h1 : OneB w A c1 l) (h2 : OneB w B c2 r) :
    Calls Try.prog 12 #[.slice A l.length c1, .slice B r.length c2] w fun e w' => e = .returned (.bool (decide (l = r))) ∧ Below w.heap.size w w' := by
  have k1 := h1.text (P := Try.prog) Try.underlying28 Try.underlying5 Try.underlying9
  have k2 := h2.text (P := Try.prog) Try.underlying28 Try.underlying5 Try.underlying9
  have ke := str_eq h1.byte h2.byte
  obtain ⟨q, hq⟩ : ∃ q, decide (l = r) = q := ⟨_, rfl⟩
  rw [hq] at ke ⊢
  obtain ⟨s, hs⟩ : ∃ s, strOfNums l = s := ⟨_, rfl⟩
  obtain ⟨t, ht⟩ : ∃ t, strOfNums r = t := ⟨_, rfl⟩
  rw [hs] at k1 ke
  rw [ht] at k2 ke
  clear h1 h2 hq hs ht
  go_enter Try.func12, Try.ntmps12
  go_wp2
  go_ret
  exact ⟨by first | rfl | (rw [← ke]; rfl), Below.refl _ _⟩

namespace Pk
theorem val_nat : ∀ l : List Int, (∀ x ∈ l, isB x) → ∃ v : Nat, val l = (v : Int) ∧ v < 128 ^ l.length
  | [], _ => ⟨0, rfl, by simp⟩
  | b :: r, h => by
    obtain ⟨v, h1, h2⟩ := val_nat r (fun x hx => h x (List.mem_cons_of_mem _ hx))
    refine ⟨v * 128 + (b % 128).toNat, ?_, ?_⟩
    · show val r * 128 + b % 128 = _
      rw [h1]
      have : 0 ≤ b % 128 := Int.emod_nonneg _ (by omega)
      omega
    · rw [List.length_cons, Nat.pow_succ]
      have h3 : b % 128 < 128 := Int.emod_lt_of_pos _ (by omega)
      have h4 : 0 ≤ b % 128 := Int.emod_nonneg _ (by omega)
      omega
/-- The bytes up to place i, from place j on: the one at place j is put ahead. -/
theorem val_step (l : List Int) (i j : Nat) (hi : i < l.length) (hj : j < i + 1) : val ((l.take (i + 1)).drop j) = val ((l.take (i + 1)).drop (j + 1)) * 128 + l.getD j 0 % 128 := by
  have hlen : j < (l.take (i + 1)).length := by rw [List.length_take]; omega
  rw [List.drop_eq_getElem_cons hlen]
  show val ((l.take (i + 1)).drop (j + 1)) * 128 + (l.take (i + 1))[j] % 128 = _
  rw [List.getElem_take, List.getD_eq_getElem?_getD, List.getElem?_eq_getElem (by omega)]
  rfl
theorem val_bd (l : List Int) (i j : Nat) (h : ∀ x ∈ l, isB x) (hi : i ≤ 8) (hj : 1 ≤ j) : 0 ≤ val ((l.take (i + 1)).drop j) ∧ val ((l.take (i + 1)).drop j) < 72057594037927936 := by
  obtain ⟨v, h1, h2⟩ := val_nat ((l.take (i + 1)).drop j) (fun x hx => h x (List.mem_of_mem_take (List.mem_of_mem_drop hx)))
  have h3 : ((l.take (i + 1)).drop j).length ≤ 8 := by rw [List.length_drop, List.length_take]; omega
  have h4 : 128 ^ ((l.take (i + 1)).drop j).length ≤ 128 ^ 8 := Nat.pow_le_pow_right (by omega) h3
  have h5 : (128 : Nat) ^ 8 = 72057594037927936 := by decide
  rw [h1]
  omega
theorem num_nine {l : List Int} (h : lead 9 l = 9) : num l = (0, 0, 4) := by unfold num; rw [if_pos h]
theorem num_short {l : List Int} (h : lead 9 l = l.length) (h9 : l.length < 9) : num l = (0, 0, 5) := by unfold num; rw [if_neg (by omega), if_pos h]
theorem num_zero {l : List Int} (h9 : lead 9 l < 9) (hl : lead 9 l < l.length) (h0 : l.getD (lead 9 l) 0 = 0) (hp : 0 < lead 9 l) : num l = (0, 0, 4) := by unfold num; rw [if_neg (by omega), if_neg (by omega), if_pos ⟨h0, hp⟩]
theorem num_yes {l : List Int} (h9 : lead 9 l < 9) (hl : lead 9 l < l.length) (h : ¬ (l.getD (lead 9 l) 0 = 0 ∧ 0 < lead 9 l)) : num l = (val (l.take (lead 9 l + 1)), (lead 9 l : Int) + 1, 0) := by unfold num; rw [if_neg (by omega), if_neg (by omega), if_neg h]
def numV (r : Int × Int × Int) : Value := .tuple #[.int .i64 r.1, .int .i64 r.2.1, .int .i64 r.2.2]
end Pk

end Go.Proofs.Ytmccednfaemiaaa
