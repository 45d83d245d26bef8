/-
  The function that goes over 64 counts: whatever the loop's body does, the nodes with a count above 0 come, rising.
-/
import Derived.Test.YtjdiopoikppifaaIn
namespace Go.Proofs.Ytjdiopoikppifaa
open Go.RowKit Go.Shelf
attribute [local go_sem] Oper.semAt_some

/-- What has come when k nodes are over. -/
def comes {α : Type} (g : Nat → α) (f : Nat → Int) : Nat → List α
  | 0 => []
  | k + 1 => comes g f k ++ (if 0 < f k then [g k] else [])
theorem comes_len {α : Type} (g : Nat → α) (f : Nat → Int) : ∀ k, (comes g f k).length ≤ k
  | 0 => Nat.le_refl _
  | k + 1 => by
    have := comes_len g f k
    unfold comes
    split <;> simp <;> omega
theorem comes_yes {α : Type} (g : Nat → α) (f : Nat → Int) (k : Nat) (h : 0 < f k) : comes g f (k + 1) = comes g f k ++ [g k] := by rw [comes, if_pos h]
theorem comes_no {α : Type} (g : Nat → α) (f : Nat → Int) (k : Nat) (h : ¬ 0 < f k) : comes g f (k + 1) = comes g f k := by rw [comes, if_neg h, List.append_nil]

set_option maxRecDepth 100000 in
set_option maxHeartbeats 2000000 in
theorem each1_in {α : Type} (told : α → Array Value) (g : Nat → α) (f : Nat → Int) (ht : ∀ k, k < 64 → told (g k) = #[.int .i64 (k : Int), .int .i64 (f k)]) (F : Fence) (n : Nat) (hf : F.fn 40) (hro : F.round = none) (hn : 1 ≤ n)
    (l B : Nat) (t : TypeId) (Kp : World → World → Prop) (J Jx : List α → World → Prop)
    (hY : ∀ pre x W, J pre W → pre.length < 64 → YieldAt F (n - 1) Try.prog l (told x) W fun e W' => (e = .returned (.bool true) ∧ J (pre ++ [x]) W' ∧ Kp W W') ∨ (e = .returned (.bool false) ∧ Jx (pre ++ [x]) W'))
    (W : World) (hB : Blk W B t (Ve.arr f)) (h0 : J [] W) :
    CallsIn F n Try.prog 40 #[.func (.yield l) #[] #[], .pointer (some ⟨B, 0, none⟩)] W fun e W' => (∃ v, e = .returned v) ∧
      ((∃ ys, ys = comes g f 64 ∧ J ys W') ∨ (∃ pre, (∃ k, k ≤ 64 ∧ pre = comes g f k) ∧ Jx pre W')) := by
  refine callsIn_of_wp Try.func40 rfl hf ?_ hro
  simp only [Try.ntmps40, List.size_toArray, List.length_cons, List.length_nil, Nat.reduceAdd, Nat.reduceSub, Array.replicate_succ, Array.replicate_zero, List.push_toArray, List.append_toArray, List.nil_append, List.cons_append]
  gi_wp2_with (refine in_load_row rfl 46 _ rfl B rfl t _ _ hB Try.underlying46 rfl (by rw [Ve.arr_size]; exact infoC) ?_)
  gi_loopw [6] (fun s6 wr => ∃ k : Nat, k ≤ 64 ∧ s6 = .int .i64 (k : Int) ∧ J (comes g f k) wr) (fun s6 _ => 64 - (intOf s6).toNat)
  case atStart => exact ⟨0, Nat.zero_le _, rfl, h0⟩
  case round =>
    obtain ⟨k, hk, rfl, hJs⟩ := hrel
    by_cases hlt : k < 64
    · have hi0 : (0 : Int) ≤ (k : Int) := by omega
      have hi1 : (k : Int) < 64 := by omega
      have hix := fun w => index_counts f k hlt w
      by_cases hc : 0 < f k
      · obtain ⟨fn, tmps, assign, body, hy, hR⟩ := hY _ (g k) wr hJs (by have := comes_len g f k; omega)
        rw [ht k hlt] at hy
        have hd : decide (0 < f k) = true := decide_eq_true hc
        gi_wp2
        refine hR.mono ?_
        rintro e W3 (⟨rfl, hJ3, hk3⟩ | ⟨rfl, hJx3⟩)
        · gi_wp2
          go_roundw
          case rel => exact ⟨k + 1, by omega, by go_num, by rw [comes_yes g f k hc]; exact hJ3⟩
          case measure => simp [intOf]; omega
        · gi_wp2
          refine bodyPost_ret (results_none rfl _ _ _) rfl ?_
          exact ⟨⟨_, rfl⟩, .inr ⟨_, ⟨k + 1, by omega, (comes_yes g f k hc).symm⟩, hJx3⟩⟩
      · have hd : decide (0 < f k) = false := decide_eq_false hc
        have HC := Lib.hid (comes_no g f k hc)
        gi_wp2
        refine ⟨fun _ h => (by cases h), ?_⟩
        gi_wp2
        go_roundw
        case rel => exact ⟨k + 1, by omega, by go_num, by rw [HC.out]; exact hJs⟩
        case measure => simp [intOf]; omega
    · obtain rfl : k = 64 := by omega
      gi_wp2
      go_end0
      exact ⟨⟨_, rfl⟩, .inl ⟨_, rfl, hJs⟩⟩

end Go.Proofs.Ytjdiopoikppifaa
