/-
  What telltaleref03's Same, Copy and Formed answer of any lists of stamps in memory.
  What telltaleref03's Formed, Has, Size and Some answer.
  What telltaleref03's Some, Join, Meet, Less, Covers and Touch answer.
  What telltaleref03's Meet, Less, Covers and Touch answer.
-/
import Derived.Test.YtbbmngabbbehcaaG05
import Derived.WalkSmall
import Derived.Deep.QuietTactic
import Derived.BigQuiet
import Derived.Lib.QuietBelow
import Derived.Test.YtbbmngabbbehcaaG01
namespace Go.Proofs.Ytbbmngabbbehcaa
open Go.RowKit

set_option maxHeartbeats 1600000 in
theorem ssame_any (A B : Option Addr) (c1 c2 : Nat) (l r : List (Int × Int)) (w : World) (hl : l.length ≤ 9223372036854775807) (h1 : Stamps w A l) (h2 : Stamps w B r) :
    Calls Try.prog 24 #[.slice A l.length c1, .slice B r.length c2] w fun e w' => e = .returned (.bool (decide (l = r))) ∧ Below w.heap.size w w' := by
  have H1 := Lib.hid h1
  have H2 := Lib.hid h2
  clear h1 h2
  by_cases hlen : l.length = r.length
  · have hd0 : ((l.length : Int) != (r.length : Int)) = false := by rw [bne_eq_false_iff_eq]; omega
    have HLEN := Lib.hid hlen
    have hr1 : r.length ≤ l.length := by omega
    have hr2 : l.length ≤ r.length := by omega
    clear hlen
    go_enter Try.func24, Try.ntmps24
    go_wp2_with fail
    go_loopw [5] (fun s5 wr => ∃ k : Nat, k ≤ l.length ∧ s5 = .int .i64 (k : Int) ∧ (∀ j, j < k → l.getD j (0, 0) = r.getD j (0, 0)) ∧ Below w.heap.size w wr) (fun s5 _ => l.length - (intOf s5).toNat)
    case atStart => exact ⟨0, Nat.zero_le _, rfl, fun j hj => by omega, Below.refl _ _⟩
    case round =>
      obtain ⟨k, hk, rfl, heq, hbw⟩ := hrel
      have HEQ := Lib.hid heq
      clear heq
      by_cases hlt : k < l.length
      · have hne : l ≠ [] := fun e => by subst e; simp at hlt
        have hne2 : r ≠ [] := fun e => by have := HLEN.out; subst e; simp at this; exact hne this
        obtain ⟨b, off, hA, hcA⟩ := (H1.out.later hbw) hne
        obtain ⟨b', off', hB, hcB⟩ := (H2.out.later hbw) hne2
        obtain ⟨e0, e1⟩ := hcA k hlt
        obtain ⟨f0, f1⟩ := hcB k (by omega)
        have H1' := H1
        have H2' := H2
        subst hA hB
        clear hcA hcB
        have hi0 : (0 : Int) ≤ (k : Int) := by omega
        have hi1 : (k : Int) < (l.length : Int) := by omega
        have hi2 : (k : Int) < (r.length : Int) := by omega
        obtain ⟨x, hx⟩ : ∃ x, l.getD k (0, 0) = x := ⟨_, rfl⟩
        obtain ⟨y, hy⟩ : ∃ y, r.getD k (0, 0) = y := ⟨_, rfl⟩
        rw [hx] at e0 e1
        rw [hy] at f0 f1
        have HX := Lib.hid hx
        have HY := Lib.hid hy
        clear hx hy
        by_cases hxy : x = y
        · subst hxy
          go_wp2_with fail
          go_quiet (fail)
          go_wp2_with fail
          go_roundw
          case rel =>
            refine ⟨k + 1, by omega, by go_num, ?_, below_drewN hbw _⟩
            intro j hj
            by_cases e : j = k
            · subst e; rw [HX.out, HY.out]
            · exact HEQ.out j (by omega)
          case measure => simp [intOf]; omega
        · have hno : decide (l = r) = false := decide_eq_false (fun e => hxy (by rw [← HX.out, ← HY.out, e]))
          have HNO := Lib.hid hno
          clear hno
          obtain ⟨x1, x2⟩ := x
          obtain ⟨y1, y2⟩ := y
          by_cases h1 : x1 = y1
          · subst h1
            have h2 : (x2 == y2) = false := beq_eq_false_iff_ne.2 (fun e => hxy (by rw [e]))
            clear hxy
            go_wp2_with fail
            go_quiet (fail)
            go_wp2
            go_ret
            exact ⟨by rw [HNO.out]; rfl, below_drewN hbw _⟩
          · have h1b : (x1 == y1) = false := beq_eq_false_iff_ne.2 h1
            clear hxy h1
            go_wp2_with fail
            go_quiet (fail)
            go_wp2
            go_ret
            exact ⟨by rw [HNO.out]; rfl, below_drewN hbw _⟩
      · have hyes : decide (l = r) = true := decide_eq_true (take_ext HLEN.out (fun j hj => HEQ.out j (by omega)))
        have HY := Lib.hid hyes
        clear hyes
        go_wp2
        go_ret
        exact ⟨by rw [HY.out]; rfl, hbw⟩
  · have hd0 : ((l.length : Int) != (r.length : Int)) = true := by rw [bne_iff_ne]; omega
    have hno : decide (l = r) = false := decide_eq_false (fun e => hlen (by rw [e]))
    have HNO := Lib.hid hno
    clear hno
    go_enter Try.func24, Try.ntmps24
    go_wp2
    go_ret
    exact ⟨by rw [HNO.out]; rfl, Below.refl _ _⟩

end Go.Proofs.Ytbbmngabbbehcaa
namespace Go.Proofs.Ytbbmngabbbehcaa
open Go.RowKit

theorem GivesS.one {l : List (Int × Int)} {w w' : World} {e : Ending} (h : GivesS l w e w') : ∃ A c, e = .returned (.slice A l.length c) ∧ OneL w' A c l ∧ Below w.heap.size w w' := by
  obtain ⟨v, rfl, ho, hb⟩ := h
  obtain ⟨A, c, rfl, h1⟩ := OneL.of_own ho
  exact ⟨A, c, rfl, h1, hb⟩

set_option maxHeartbeats 800000 in
theorem sformed_any (A : Option Addr) (c : Nat) (l : List (Int × Int)) (w : World) (h1 : OneL w A c l) :
    Calls Try.prog 19 #[.slice A l.length c] w fun e w' => e = .returned (.bool (Sp.fmd l)) ∧ Below w.heap.size w w' := by
  have hl := h1.len
  by_cases hle : l.length ≤ 128
  · have hd : decide ((l.length : Int) ≤ 128) = true := decide_eq_true (by omega)
    have hf : Sp.fmd l = decide (l = Sp.ofL (Sp.inL l)) := by
      unfold Sp.fmd
      rw [Bool.eq_iff_iff, decide_eq_true_eq, decide_eq_true_eq]
      exact ⟨fun h => h.2, fun h => ⟨hle, h⟩⟩
    have hol := Sp.ofL_len (Sp.inL l)
    have n1 := set_any A c l w hl h1.stamps
    have n2 := fun wx => ofS_any (Sp.inL l) wx
    obtain ⟨m, hm⟩ : ∃ m, Sp.ofL (Sp.inL l) = m := ⟨_, rfl⟩
    obtain ⟨f, hff⟩ : ∃ f, Sp.inL l = f := ⟨_, rfl⟩
    rw [hff] at n1
    rw [hm] at n2 hf hol
    rw [hff] at n2
    have N1 := Lib.hid n1
    have N2 := Lib.hid n2
    have HF := Lib.hid hf
    have H1 := Lib.hid h1
    clear n1 n2 hf h1 hm hff
    go_enter Try.func19, Try.ntmps19
    go_wp2_with fail
    refine N1.out.mono ?_
    rintro e w1 ⟨rfl, b1⟩
    clear N1
    go_wp2_with fail
    refine (N2.out _).mono ?_
    rintro e w2 hg
    obtain ⟨B, d, rfl, ho, b2⟩ := hg.one
    have hbb := below_on b1 b2
    have hs := ssame_any A B c d l m w2 hl (H1.out.later hbb).stamps ho.stamps
    have HS := Lib.hid hs
    clear hg ho hs N2 H1
    go_wp2_with fail
    refine HS.out.mono ?_
    rintro e w3 ⟨rfl, b3⟩
    go_wp2
    go_ret
    exact ⟨by rw [HF.out]; rfl, below_on hbb b3⟩
  · have hd : decide ((l.length : Int) ≤ 128) = false := decide_eq_false (by omega)
    have hf : Sp.fmd l = false := by
      unfold Sp.fmd
      exact decide_eq_false (fun h => hle h.1)
    have HF := Lib.hid hf
    clear hf
    go_enter Try.func19, Try.ntmps19
    go_wp2
    go_ret
    exact ⟨by rw [HF.out]; rfl, Below.refl _ _⟩

/-- One of 256 marks, by its place. -/
theorem index_marks (f : Nat → Bool) (k : Nat) (hk : k < 256) (w : World) : (Instr.index 92 (.agg (Sp.arr f)) (.int .i64 (k : Int))).run Try.prog w = .ok (.bool (f k)) w := by
  have h1 := Sp.arr_get f k hk
  simp [Instr.index, asIntOf, run_underlying Try.underlying92, part, Try.isAgg4, Try.sizeOf4, h1]
  intro h
  exact absurd h (by omega)

/-- Is any number an object in a list? -/
def inOf (l : List (Int × Int)) (o : Int) : Bool := decide (0 ≤ o ∧ o ≤ 255) && Sp.inL l o.toNat

set_option maxHeartbeats 800000 in
theorem shas_any (A : Option Addr) (c : Nat) (l : List (Int × Int)) (o : Int) (w : World) (h1 : OneL w A c l) :
    Calls Try.prog 63 #[.slice A l.length c, .int .i64 o] w fun e w' => e = .returned (.bool (inOf l o)) ∧ Below w.heap.size w w' := by
  have n1 := set_any A c l w h1.len h1.stamps
  by_cases h0 : 0 ≤ o
  · have hd : decide (0 ≤ o) = true := decide_eq_true h0
    by_cases h2 : o ≤ 255
    · obtain ⟨k, rfl⟩ : ∃ k : Nat, o = (k : Int) := ⟨o.toNat, by omega⟩
      have hd2 : decide ((k : Int) ≤ 255) = true := decide_eq_true h2
      have hk : k < 256 := by omega
      have hi : inOf l (k : Int) = Sp.inL l k := by unfold inOf; rw [decide_eq_true ⟨h0, h2⟩]; rfl
      have HI := Lib.hid hi
      have hix := fun w => index_marks (Sp.inL l) k hk w
      have N1 := Lib.hid n1
      clear n1 hi
      go_enter Try.func63, Try.ntmps63
      go_wp2_with fail
      refine N1.out.mono ?_
      rintro e w1 ⟨rfl, b1⟩
      go_wp2
      go_ret
      exact ⟨by rw [HI.out]; rfl, b1⟩
    · have hd2 : decide (o ≤ 255) = false := decide_eq_false h2
      have hi : inOf l o = false := by unfold inOf; rw [decide_eq_false (fun h => h2 h.2)]; rfl
      have HI := Lib.hid hi
      clear n1 hi
      go_enter Try.func63, Try.ntmps63
      go_wp2
      go_ret
      exact ⟨by rw [HI.out]; rfl, Below.refl _ _⟩
  · have hd : decide (0 ≤ o) = false := decide_eq_false h0
    have hi : inOf l o = false := by unfold inOf; rw [decide_eq_false (fun h => h0 h.1)]; rfl
    have HI := Lib.hid hi
    clear n1 hi
    go_enter Try.func63, Try.ntmps63
    go_wp2
    go_ret
    exact ⟨by rw [HI.out]; rfl, Below.refl _ _⟩

end Go.Proofs.Ytbbmngabbbehcaa
namespace Go.Proofs.Ytbbmngabbbehcaa
open Go.RowKit

namespace Sp
/-- Is an object among some numbers? -/
def someOf (xs : List Int) (o : Nat) : Bool := xs.any fun x => decide (x = (o : Int))
theorem someOf_take (xs : List Int) (k : Nat) (h : k < xs.length) (o : Nat) : someOf (xs.take (k + 1)) o = (someOf (xs.take k) o || decide (xs[k] = (o : Int))) := by
  unfold someOf
  rw [List.take_succ_eq_append_getElem h, List.any_append]
  simp
/-- Is an object in one of the first k lists? -/
def anyTo (ls : List (List (Int × Int))) : Nat → Nat → Bool
  | 0, _ => false
  | k + 1, o => anyTo ls k o || inL (ls.getD k []) o
def joinS (ls : List (List (Int × Int))) : List (Int × Int) := ofL (anyTo ls ls.length)
def meetS (l r : List (Int × Int)) : List (Int × Int) := ofL fun o => inL l o && inL r o
def lessS (l r : List (Int × Int)) : List (Int × Int) := ofL fun o => inL l o && !inL r o
/-- Half of a round. -/
def mixTo (h : Bool → Bool → Bool) (f g : Nat → Bool) (n : Nat) : Nat → Bool := fun j => if j < n then h (f j) (g j) else f j
theorem mix_start (h : Bool → Bool → Bool) (f g : Nat → Bool) (i : Nat) : f i = mixTo h f g 0 i := by unfold mixTo; rw [if_neg (by omega)]
theorem mix_here (h : Bool → Bool → Bool) (f g : Nat → Bool) (n : Nat) : mixTo h f g n n = f n := by unfold mixTo; rw [if_neg (by omega)]
theorem mix_step (h : Bool → Bool → Bool) (f g : Nat → Bool) (n : Nat) (x : Bool) (hx : x = h (f n) (g n)) (i : Nat) : (if i = n then x else mixTo h f g n i) = mixTo h f g (n + 1) i := by
  unfold mixTo
  by_cases e : i = n
  · subst e
    rw [if_pos rfl, if_pos (by omega), hx]
  · rw [if_neg e]
    by_cases hl : i < n
    · rw [if_pos hl, if_pos (by omega)]
    · rw [if_neg hl, if_neg (by omega)]
theorem mix_end (h : Bool → Bool → Bool) (f g : Nat → Bool) (i : Nat) (hi : i < 256) : mixTo h f g 256 i = h (f i) (g i) := by unfold mixTo; rw [if_pos hi]
end Sp

end Go.Proofs.Ytbbmngabbbehcaa
namespace Go.Proofs.Ytbbmngabbbehcaa
open Go.RowKit Fb

def Sp.butNot (a b : Bool) : Bool := a && !b

end Go.Proofs.Ytbbmngabbbehcaa
