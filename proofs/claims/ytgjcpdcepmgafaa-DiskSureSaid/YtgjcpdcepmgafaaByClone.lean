/-
  What bytes.Clone answers.
-/
import Derived.Test.YtgjcpdcepmgafaaByRef
import Derived.Lib.SliceRun
import Derived.Lib.Walk
namespace Go.Proofs.Ytgjcpdcepmgafaa
open Go.RowKit

set_option maxHeartbeats 800000 in
theorem cloneB_any (A : Option Addr) (c1 : Nat) (l : List Int) (w : World) (hl : l.length ≤ 140737488355328) (h1 : OneB w A c1 l) :
    Calls Try.prog 36 #[.slice A l.length c1] w (GivesB l w) := by
  obtain ⟨i0, hi, hz0, hz1, hz2⟩ := info_parts infoBy
  cases A with
  | none =>
    obtain ⟨h0, hc⟩ := h1.noA rfl
    have hl0 : l = [] := List.eq_nil_of_length_eq_zero h0
    subst hl0
    subst hc
    clear h1
    have heq := fun wx => Lib.run_eql_slice_nil (P := Try.prog) wx 25 5 none 0 0 0 0 Try.underlying25
    go_enter Try.func36, Try.ntmps36
    go_wp2
    go_ret
    exact ⟨_, rfl, ⟨rfl, .inl ⟨rfl, rfl⟩⟩, Below.refl _ _⟩
  | some a =>
    have hown : (w.alloc (.cells #[] 5)).ownsRow w.heap.size 5 1 (.slice (some ⟨w.heap.size, 0, none⟩) 0 0) 0 [] :=
      ⟨rfl, .inr ⟨w.heap.size, 0, #[], rfl, Nat.le_refl _, heap_alloc_new w _, Nat.le_refl _, Nat.zero_le _, rfl, rfl⟩⟩
    have HA := Lib.hid h1.noA
    have heq := fun wx => Lib.run_eql_slice_nil (P := Try.prog) wx 25 5 (some a) l.length c1 0 0 Try.underlying25
    go_enter Try.func36, Try.ntmps36
    go_wp2_with (at_builtin; refine wpList_append_lies _ rfl _ _ 25 rfl w.heap.size 5 i0 (.int .u8 0) 1 1 Try.underlying25 hi hz0 hz1 hz2 rfl (by decide) _ 0 [] rfl hown (some a) l.length c1 HA.out (bCells l) rfl (by rw [bCells_length, Nat.mul_one]) (h1.lies.alloc _) (bCells_one l) ?c3 ?c4 ?c5 ?_)
    case c3 => unfold maxLen; omega
    case c4 => omega
    case c5 => simp
    intro v' w1 hown1 hg1 _
    have hbw : Below w.heap.size w w1 := (below_new (Below.refl _ _) (.cells #[] 5)).grown hg1 (by simp) (by intro k hk; simp [Value.ownBlock] at hk; omega)
    try simp only [Nat.zero_add, List.nil_append] at hown1
    have HO := Lib.hid hown1
    clear hown hown1 hg1
    go_wp2
    go_ret
    exact ⟨_, rfl, HO.out, hbw⟩

end Go.Proofs.Ytgjcpdcepmgafaa
