/-
  What telltaleref03's Formed, Has, Size and Some answer.
  What telltaleref03's Some, Join, Meet, Less, Covers and Touch answer.
  What telltaleref03's Meet, Less, Covers and Touch answer.
  What telltaleref01's Right answers, for all stamps; each leaves the memory that was there as it was.
-/
import Derived.Test.YtbpgofgdlikedaaG05
import Derived.Test.YtbpgofgdlikedaaG02
import Derived.Test.YtbpgofgdlikedaaProg
import Derived.Test.YtbpgofgdlikedaaG01
import Derived.Tactics
import Derived.Tactics2
import Derived.WalkKit
import Derived.WalkSpells
import Derived.OwnWalk
import Derived.Deep.QuietTactic
import Derived.BigQuiet
import Derived.Deep.RegionHeld3
import Derived.KernelRfl
import Derived.Lib.Hide
namespace Go.Proofs.Ytbpgofgdlikedaa
open Go.RowKit

theorem GivesS.one {l : List (Int × Int)} {w w' : World} {e : Ending} (h : GivesS l w e w') : ∃ A c, e = .returned (.slice A l.length c) ∧ OneL w' A c l ∧ Below w.heap.size w w' := by
  obtain ⟨v, rfl, ho, hb⟩ := h
  obtain ⟨A, c, rfl, h1⟩ := OneL.of_own ho
  exact ⟨A, c, rfl, h1, hb⟩

/-- One of 256 marks, by its place. -/
theorem index_marks (f : Nat → Bool) (k : Nat) (hk : k < 256) (w : World) : (Instr.index 52 (.agg (Sp.arr f)) (.int .i64 (k : Int))).run Try.prog w = .ok (.bool (f k)) w := by
  have h1 := Sp.arr_get f k hk
  simp [Instr.index, asIntOf, run_underlying Try.underlying52, part, Try.isAgg4, Try.sizeOf4, h1]
  intro h
  exact absurd h (by omega)

/-- Is any number an object in a list? -/
def inOf (l : List (Int × Int)) (o : Int) : Bool := decide (0 ≤ o ∧ o ≤ 255) && Sp.inL l o.toNat

end Go.Proofs.Ytbpgofgdlikedaa
namespace Go.Proofs.Ytbpgofgdlikedaa
open Go.RowKit

namespace Sp
/-- Is an object among some numbers? -/
def someOf (xs : List Int) (o : Nat) : Bool := xs.any fun x => decide (x = (o : Int))
theorem someOf_take (xs : List Int) (k : Nat) (h : k < xs.length) (o : Nat) : someOf (xs.take (k + 1)) o = (someOf (xs.take k) o || decide (xs[k] = (o : Int))) := by
  unfold someOf
  rw [List.take_succ_eq_append_getElem h, List.any_append]
  simp
/-- Is an object in one of the first k lists? -/
def anyTo (ls : List (List (Int × Int))) : Nat → Nat → Bool
  | 0, _ => false
  | k + 1, o => anyTo ls k o || inL (ls.getD k []) o
def joinS (ls : List (List (Int × Int))) : List (Int × Int) := ofL (anyTo ls ls.length)
def meetS (l r : List (Int × Int)) : List (Int × Int) := ofL fun o => inL l o && inL r o
def lessS (l r : List (Int × Int)) : List (Int × Int) := ofL fun o => inL l o && !inL r o
/-- Half of a round. -/
def mixTo (h : Bool → Bool → Bool) (f g : Nat → Bool) (n : Nat) : Nat → Bool := fun j => if j < n then h (f j) (g j) else f j
theorem mix_start (h : Bool → Bool → Bool) (f g : Nat → Bool) (i : Nat) : f i = mixTo h f g 0 i := by unfold mixTo; rw [if_neg (by omega)]
theorem mix_here (h : Bool → Bool → Bool) (f g : Nat → Bool) (n : Nat) : mixTo h f g n n = f n := by unfold mixTo; rw [if_neg (by omega)]
theorem mix_step (h : Bool → Bool → Bool) (f g : Nat → Bool) (n : Nat) (x : Bool) (hx : x = h (f n) (g n)) (i : Nat) : (if i = n then x else mixTo h f g n i) = mixTo h f g (n + 1) i := by
  unfold mixTo
  by_cases e : i = n
  · subst e
    rw [if_pos rfl, if_pos (by omega), hx]
  · rw [if_neg e]
    by_cases hl : i < n
    · rw [if_pos hl, if_pos (by omega)]
    · rw [if_neg hl, if_neg (by omega)]
theorem mix_end (h : Bool → Bool → Bool) (f g : Nat → Bool) (i : Nat) (hi : i < 256) : mixTo h f g 256 i = h (f i) (g i) := by unfold mixTo; rw [if_pos hi]
end Sp

end Go.Proofs.Ytbpgofgdlikedaa
namespace Go.Proofs.Ytbpgofgdlikedaa
open Go.RowKit Fb

def Sp.butNot (a b : Bool) : Bool := a && !b

end Go.Proofs.Ytbpgofgdlikedaa
namespace Go.Proofs.Ytbpgofgdlikedaa
open Go.RowKit

theorem rright_c (c n : Int) (w : World) (h : c < 1) :
    Calls Try.prog 33 #[.agg #[.int .i64 c, .int .i64 n]] w fun e w' => e = .returned (.bool (St.rgt c n)) ∧ Below w.heap.size w w' := by
  have h0 : St.rgt c n = false := by unfold St.rgt; simp; omega
  have H0 := Lib.hid h0; clear h0
  have hd0 : decide (1 ≤ c) = false := decide_eq_false (by omega)
  go_enter Try.func33, Try.ntmps33
  go_wp2
  go_ret
  rw [H0.out]
  exact ⟨rfl, by repeat (first | exact Below.refl _ _ | exact Nat.le_refl _ | (apply Below.drew) | (refine Below.alloc ?_ ?_ _) | (refine Below.setCell ?_ ?_ _) | (simp; done) | (simp; omega))⟩

theorem rright_n (c n : Int) (w : World) (h : 1 ≤ c) (hn : n < 0) :
    Calls Try.prog 33 #[.agg #[.int .i64 c, .int .i64 n]] w fun e w' => e = .returned (.bool (St.rgt c n)) ∧ Below w.heap.size w w' := by
  have h0 : St.rgt c n = false := by unfold St.rgt; simp; omega
  have H0 := Lib.hid h0; clear h0
  have hd0 : decide (1 ≤ c) = true := decide_eq_true (by omega)
  have hd1 : decide (0 ≤ n) = false := decide_eq_false (by omega)
  go_enter Try.func33, Try.ntmps33
  go_wp2
  go_ret
  rw [H0.out]
  exact ⟨rfl, by repeat (first | exact Below.refl _ _ | exact Nat.le_refl _ | (apply Below.drew) | (refine Below.alloc ?_ ?_ _) | (refine Below.setCell ?_ ?_ _) | (simp; done) | (simp; omega))⟩

theorem rright_m (c n : Int) (w : World) (h : 1 ≤ c) (hn : 63 < n) :
    Calls Try.prog 33 #[.agg #[.int .i64 c, .int .i64 n]] w fun e w' => e = .returned (.bool (St.rgt c n)) ∧ Below w.heap.size w w' := by
  have h0 : St.rgt c n = false := by unfold St.rgt; simp; omega
  have H0 := Lib.hid h0; clear h0
  have hd0 : decide (1 ≤ c) = true := decide_eq_true (by omega)
  have hd1 : decide (0 ≤ n) = true := decide_eq_true (by omega)
  have hd2 : decide (n ≤ 63) = false := decide_eq_false (by omega)
  go_enter Try.func33, Try.ntmps33
  go_wp2
  go_ret
  rw [H0.out]
  exact ⟨rfl, by repeat (first | exact Below.refl _ _ | exact Nat.le_refl _ | (apply Below.drew) | (refine Below.alloc ?_ ?_ _) | (refine Below.setCell ?_ ?_ _) | (simp; done) | (simp; omega))⟩

theorem rright_y (c n : Int) (w : World) (h : 1 ≤ c) (hn : 0 ≤ n) (hm : n ≤ 63) :
    Calls Try.prog 33 #[.agg #[.int .i64 c, .int .i64 n]] w fun e w' => e = .returned (.bool (St.rgt c n)) ∧ Below w.heap.size w w' := by
  have h0 : St.rgt c n = true := by unfold St.rgt; simp; omega
  have H0 := Lib.hid h0; clear h0
  have hd0 : decide (1 ≤ c) = true := decide_eq_true (by omega)
  have hd1 : decide (0 ≤ n) = true := decide_eq_true (by omega)
  have hd2 : decide (n ≤ 63) = true := decide_eq_true (by omega)
  go_enter Try.func33, Try.ntmps33
  go_wp2
  go_ret
  rw [H0.out]
  exact ⟨rfl, by repeat (first | exact Below.refl _ _ | exact Nat.le_refl _ | (apply Below.drew) | (refine Below.alloc ?_ ?_ _) | (refine Below.setCell ?_ ?_ _) | (simp; done) | (simp; omega))⟩

/-- telltaleref01's Right. -/
theorem rright_any (c n : Int) (w : World) :
    Calls Try.prog 33 #[.agg #[.int .i64 c, .int .i64 n]] w fun e w' => e = .returned (.bool (St.rgt c n)) ∧ Below w.heap.size w w' := by
  by_cases h : c < 1
  · exact rright_c c n w h
  by_cases h1 : n < 0
  · exact rright_n c n w (by omega) h1
  by_cases h2 : 63 < n
  · exact rright_m c n w (by omega) h2
  · exact rright_y c n w (by omega) (by omega) (by omega)

end Go.Proofs.Ytbpgofgdlikedaa
