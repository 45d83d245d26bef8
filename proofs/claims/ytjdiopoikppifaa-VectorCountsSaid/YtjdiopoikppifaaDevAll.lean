/-
  What vector's All answers: a function over the counts of the list, which were read when it was made.
-/
import Derived.Test.YtjdiopoikppifaaDevCounts
import Derived.Test.YtjdiopoikppifaaVecLawWalks
namespace Go.Proofs.Ytjdiopoikppifaa
open Go.RowKit Go.Shelf

set_option maxRecDepth 100000 in
set_option maxHeartbeats 1600000 in
theorem all_any (f : Nat → Int) (w : World) :
    Calls Try.prog 38 #[.agg (Ve.arr f)] w fun e w' => e = .returned (.func (.func 40) #[] #[.pointer (some ⟨w.heap.size, 0, none⟩)]) ∧ w' = w.alloc (.cells (Ve.arr f) 46) := by
  go_enter Try.func38, Try.ntmps38
  go_wp2
  go_ret
  exact ⟨rfl, rfl⟩

/-- A function over 64 counts is answered; the counts lie in a new block. -/
def Walker (f : Nat → Int) (w : World) (e : Ending) (w1 : World) : Prop :=
  ∃ b, e = .returned (.func (.func 40) #[] #[.pointer (some ⟨b, 0, none⟩)]) ∧ Blk w1 b 46 (Ve.arr f) ∧ w.heap.size ≤ b ∧ Below w.heap.size w w1
theorem all_walker (f : Nat → Int) (w : World) : Calls Try.prog 38 #[.agg (Ve.arr f)] w (Walker f w) := by
  refine (all_any f w).mono ?_
  rintro e w1 ⟨rfl, rfl⟩
  exact ⟨w.heap.size, rfl, Blk.new _ _ _, Nat.le_refl _, below_new (Below.refl _ _) _⟩

set_option maxHeartbeats 800000 in
theorem All_any (A : Option Addr) (c : Nat) (l : List (Int × Int)) (w : World) (h : OneL w A c l) :
    Calls Try.prog 31 #[.slice A l.length c] w (Walker (Ve.cnt l) w) := by
  have H := Lib.hid (countsOf_any A c l w h.len h.stamps)
  clear h
  go_enter Try.func31, Try.ntmps31
  go_wp2_with fail
  refine H.out.mono ?_
  rintro e w1 ⟨rfl, b1⟩
  clear H
  go_wp2_with fail
  refine (all_walker _ _).mono ?_
  rintro e w2 ⟨b, rfl, hB, hle, b2⟩
  go_wp2
  go_ret
  exact ⟨b, rfl, hB, Nat.le_trans b1.size hle, below_on b1 b2⟩

theorem comes_ofTo (f : Nat → Int) : ∀ k, comes (fun k => (f k, (k : Int))) f k = Ve.ofTo f k
  | 0 => rfl
  | k + 1 => by rw [comes, Ve.ofTo, comes_ofTo f k]
theorem comes_ofL (f : Nat → Int) : comes (fun k => (f k, (k : Int))) f 64 = Ve.ofL f := by unfold Ve.ofL; exact comes_ofTo f 64
theorem comes_pre {α : Type} (g : Nat → α) (f : Nat → Int) (k : Nat) : ∀ m, k ≤ m → comes g f k <+: comes g f m
  | 0, h => by rw [Nat.le_zero.1 h]; exact List.prefix_rfl
  | m + 1, h => by
    rcases Nat.lt_or_ge m k with h1 | h1
    · rw [show k = m + 1 from by omega]; exact List.prefix_rfl
    · exact (comes_pre g f k m h1).trans ⟨_, rfl⟩

/-- The loop over such a function: whatever a round keeps. -/
theorem each_stops {α : Type} (told : α → Array Value) (g : Nat → α) (f : Nat → Int) (ht : ∀ k, k < 64 → told (g k) = #[.int .i64 (k : Int), .int .i64 (f k)]) (F : Fence) (n : Nat) (hf : F.fn 40) (hro : F.round = none) (hn : 1 ≤ n)
    (b : Nat) (t : TypeId) (Kp : World → World → Prop) (w : World) (hB : Blk w b t (Ve.arr f)) :
    SeqStopsK F n Try.prog 40 #[.pointer (some ⟨b, 0, none⟩)] told Kp (· = comes g f 64) (fun pre => ∃ k, k ≤ 64 ∧ pre = comes g f k) 64 w :=
  fun l J Jx W hW _ _ hY h0 => each1_in told g f ht F n hf hro hn l b t Kp J Jx hY W (hB.later hW) h0

theorem enters_each : ∀ args w, (callFunc 40 args).run Try.prog w = .ok (.enter 40 args) w :=
  enters_of Try.func40 (by kernel_rfl) rfl

set_option maxHeartbeats 800000 in
theorem allSpec : AllSpec := by
  unfold AllSpec
  intro A c l w0 w h hb
  refine (All_any A c l w (h.later hb)).mono ?_
  rintro e w1 ⟨b, rfl, hB, _, b1⟩
  refine ⟨_, _, rfl, b1, enters_each, ?_⟩
  have hs := each_stops told (fun k => (Ve.cnt l k, (k : Int))) (Ve.cnt l) (fun k _ => rfl) Fence.wide 2 trivial rfl (by omega) b _ (Keep w0.heap.size w.heap.size w1.heap.size) w1 hB
  intro l J Jx W hW hJ hJx hY h0
  refine (hs l J Jx W hW hJ hJx hY h0).mono ?_
  rintro e W' ⟨hv, ⟨ys, hy, hys⟩ | ⟨pre, ⟨k, hk, hp⟩, hpre⟩⟩
  · exact ⟨hv, .inl ⟨ys, hy.trans (comes_ofL _), hys⟩⟩
  · refine ⟨hv, .inr ⟨pre, ?_, hpre⟩⟩
    rw [hp, ← comes_ofL]
    exact comes_pre _ _ _ _ hk

end Go.Proofs.Ytjdiopoikppifaa
