/-
  Plain mathematics of frame, one: the sum. Eight shifts of a byte one by one, or two times four looked up in a table; the sum tells one byte.
-/
import Derived.Test.YtobgbaejdamecaaDoorByRef
import Derived.Laws.BitsAllLaws
namespace Go.Proofs.YtobgbaejdamecaaDoor
open Go.RowKit

namespace Fr
def poly : Nat := 3988292384
/-- What a bit that falls out puts on. -/
def low (b : Nat) : Nat := if b % 2 = 1 then poly else 0
/-- One shift. -/
def step (c : Nat) : Nat := c / 2 ^^^ low c
/-- n shifts. -/
def steps : Nat → Nat → Nat
  | 0, c => c
  | n + 1, c => steps n (step c)
def byte8 (c : Nat) (x : Int) : Nat := steps 8 (c ^^^ x.toNat)
/-- The sum of bytes from one on, not turned yet. -/
def run (c : Nat) (l : List Int) : Nat := l.foldl byte8 c
/-- The sum of bytes. -/
def sum (l : List Int) : Nat := 4294967295 - run 4294967295 l
theorem run_append (c : Nat) (l r : List Int) : run c (l ++ r) = run (run c l) r := List.foldl_append
theorem run_cons (c : Nat) (x : Int) (r : List Int) : run c (x :: r) = run (byte8 c x) r := rfl

theorem low_lt (c : Nat) : low c < 4294967296 := by
  unfold low poly
  split <;> omega
theorem xor_lt {a b : Nat} (ha : a < 4294967296) (hb : b < 4294967296) : a ^^^ b < 4294967296 := Nat.xor_lt_two_pow (n := 32) ha hb
theorem step_lt {c : Nat} (h : c < 4294967296) : step c < 4294967296 := xor_lt (by omega) (low_lt c)
theorem steps_lt : ∀ n c, c < 4294967296 → steps n c < 4294967296
  | 0, _, h => h
  | n + 1, c, h => steps_lt n (step c) (step_lt h)
theorem byte8_lt {c : Nat} {x : Int} (h : c < 4294967296) (hx : isB x) : byte8 c x < 4294967296 := by
  unfold isB at hx
  exact steps_lt 8 _ (xor_lt h (by omega))
theorem run_lt : ∀ (l : List Int) (c : Nat), c < 4294967296 → (∀ x ∈ l, isB x) → run c l < 4294967296
  | [], _, h, _ => h
  | x :: r, _, h, hb => run_lt r _ (byte8_lt h (hb x (by simp))) (fun y hy => hb y (by simp [hy]))
theorem sum_lt (l : List Int) : sum l < 4294967296 := by
  unfold sum
  omega

/-- Shifts are linear. -/
theorem xor_half (a b : Nat) : (a ^^^ b) / 2 = a / 2 ^^^ b / 2 := by
  have h := Nat.shiftRight_xor_distrib (a := a) (b := b) (i := 1)
  simpa [Nat.shiftRight_eq_div_pow] using h
theorem xor_low (a b : Nat) : low (a ^^^ b) = low a ^^^ low b := by
  have h : (a ^^^ b) % 2 = (a % 2 + b % 2) % 2 := by
    have h1 := Nat.xor_mod_two_pow (a := a) (b := b) (n := 1)
    simp only [Nat.pow_one] at h1
    rw [h1]
    rcases Nat.mod_two_eq_zero_or_one a with ha | ha <;> rcases Nat.mod_two_eq_zero_or_one b with hb | hb <;> rw [ha, hb] <;> rfl
  unfold low
  rw [h]
  rcases Nat.mod_two_eq_zero_or_one a with ha | ha <;> rcases Nat.mod_two_eq_zero_or_one b with hb | hb <;> rw [ha, hb] <;> rfl
theorem step_xor (a b : Nat) : step (a ^^^ b) = step a ^^^ step b := by
  unfold step
  rw [xor_half, xor_low]
  ac_rfl
theorem steps_xor : ∀ n a b, steps n (a ^^^ b) = steps n a ^^^ steps n b
  | 0, _, _ => rfl
  | n + 1, a, b => by
    show steps n (step (a ^^^ b)) = _
    rw [step_xor, steps_xor n]
    rfl
/-- What n shifts leave: what lies above, and what the lowest n bits put on. -/
theorem steps_split : ∀ n c, steps n c = c / 2 ^ n ^^^ steps n (c % 2 ^ n)
  | 0, c => by
    show c = c / 1 ^^^ c % 1
    rw [Nat.div_one, Nat.mod_one, Nat.xor_zero]
  | n + 1, c => by
    have h1 : c % 2 ^ (n + 1) / 2 = c / 2 % 2 ^ n := by
      rw [Nat.pow_succ, Nat.mul_comm (2 ^ n) 2, Nat.mod_mul_right_div_self]
    have h2 : low (c % 2 ^ (n + 1)) = low c := by
      unfold low
      rw [Nat.pow_succ, Nat.mul_comm (2 ^ n) 2, Nat.mod_mul_right_mod]
    have h3 : c / 2 ^ (n + 1) = c / 2 / 2 ^ n := by
      rw [Nat.pow_succ, Nat.mul_comm (2 ^ n) 2, Nat.div_div_eq_div_mul]
    show steps n (step c) = c / 2 ^ (n + 1) ^^^ steps n (step (c % 2 ^ (n + 1)))
    have e1 : step c = c / 2 ^^^ low c := rfl
    have e2 : step (c % 2 ^ (n + 1)) = c / 2 % 2 ^ n ^^^ low c := by
      unfold step
      rw [h1, h2]
    rw [e1, e2, steps_xor, steps_xor, steps_split n (c / 2), h3]
    ac_rfl
/-- The table of what four shifts make of each half byte. -/
def tab : List Nat := [0, 498536548, 997073096, 651767980, 1994146192, 1802195444, 1303535960, 1342533948, 3988292384, 4027552580, 3604390888, 3412177804, 2607071920, 2262029012, 2685067896, 3183342108]
theorem tab_is : ∀ v : Fin 16, tab.getD v.val 0 = steps 4 v.val := by decide
def four (c : Nat) : Nat := c / 16 ^^^ tab.getD (c % 16) 0
theorem four_is (c : Nat) : four c = steps 4 c := by
  rw [steps_split 4 c]
  unfold four
  rw [tab_is ⟨c % 16, Nat.mod_lt _ (by omega)⟩]
theorem steps_add : ∀ n m c, steps (n + m) c = steps m (steps n c)
  | 0, m, c => by rw [Nat.zero_add]; rfl
  | n + 1, m, c => by
    rw [show n + 1 + m = (n + m) + 1 from by omega]
    exact steps_add n m (step c)
theorem byte8_four (c : Nat) (x : Int) : byte8 c x = four (four (c ^^^ x.toNat)) := by
  rw [four_is, four_is, ← steps_add]
  rfl
theorem tab_lt (v : Nat) (h : v < 16) : tab.getD v 0 < 4294967296 := by
  rw [tab_is ⟨v, h⟩]
  exact steps_lt 4 v (by omega)
theorem four_lt {c : Nat} (h : c < 4294967296) : four c < 4294967296 := by
  rw [four_is]
  exact steps_lt 4 c h

/-- A shift loses nothing: what is put on has the highest bit. -/
theorem xor_cancel {a b e : Nat} (h : a ^^^ e = b ^^^ e) : a = b := by
  have h1 : (a ^^^ e) ^^^ e = (b ^^^ e) ^^^ e := by rw [h]
  rwa [Nat.xor_assoc, Nat.xor_self, Nat.xor_zero, Nat.xor_assoc, Nat.xor_self, Nat.xor_zero] at h1
theorem step_inj {a b : Nat} (ha : a < 4294967296) (hb : b < 4294967296) (h : step a = step b) : a = b := by
  unfold step at h
  by_cases hp : a % 2 = b % 2
  · have hl : low a = low b := by
      unfold low
      rw [hp]
    rw [hl] at h
    have := xor_cancel h
    omega
  · exfalso
    have key : ∀ x y : Nat, x < 2147483648 → y < 2147483648 → x ^^^ poly = y → False := by
      intro x y hx hy hxy
      have h1 : poly = x ^^^ y := by
        rw [← hxy, ← Nat.xor_assoc, Nat.xor_self, Nat.zero_xor]
      have h2 : x ^^^ y < 2 ^ 31 := Nat.xor_lt_two_pow (n := 31) hx hy
      rw [← h1] at h2
      exact absurd h2 (by decide)
    rcases Nat.mod_two_eq_zero_or_one a with h1 | h1 <;> rcases Nat.mod_two_eq_zero_or_one b with h2 | h2
    · exact hp (by omega)
    · unfold low at h
      rw [h1, h2] at h
      simp only [Nat.zero_ne_one, if_false, if_true, Nat.xor_zero] at h
      exact key (b / 2) (a / 2) (by omega) (by omega) h.symm
    · unfold low at h
      rw [h1, h2] at h
      simp only [Nat.zero_ne_one, if_false, if_true, Nat.xor_zero] at h
      exact key (a / 2) (b / 2) (by omega) (by omega) h
    · exact hp (by omega)
theorem steps_inj : ∀ n a b, a < 4294967296 → b < 4294967296 → steps n a = steps n b → a = b
  | 0, _, _, _, _, h => h
  | n + 1, _, _, ha, hb, h => step_inj ha hb (steps_inj n _ _ (step_lt ha) (step_lt hb) h)
theorem byte8_inj {a b : Nat} {x : Int} (ha : a < 4294967296) (hb : b < 4294967296) (hx : isB x) (h : byte8 a x = byte8 b x) : a = b := by
  unfold isB at hx
  exact xor_cancel (steps_inj 8 _ _ (xor_lt ha (by omega)) (xor_lt hb (by omega)) h)
theorem byte8_one {c : Nat} {x y : Int} (hc : c < 4294967296) (hx : isB x) (hy : isB y) (h : byte8 c x = byte8 c y) : x = y := by
  unfold isB at hx hy
  have h1 := steps_inj 8 _ _ (xor_lt hc (by omega)) (xor_lt hc (by omega)) h
  rw [Nat.xor_comm c, Nat.xor_comm c] at h1
  have := xor_cancel h1
  omega
theorem run_inj : ∀ (l : List Int) (a b : Nat), a < 4294967296 → b < 4294967296 → (∀ x ∈ l, isB x) → run a l = run b l → a = b
  | [], _, _, _, _, _, h => h
  | x :: r, _, _, ha, hb, hl, h => byte8_inj ha hb (hl x (by simp)) (run_inj r _ _ (byte8_lt ha (hl x (by simp))) (byte8_lt hb (hl x (by simp))) (fun y hy => hl y (by simp [hy])) h)
/-- The sum tells one byte that is another one. -/
theorem sum_tells {l r : List Int} {x y : Int} (hl : ∀ z ∈ l, isB z) (hx : isB x) (hy : isB y) (hr : ∀ z ∈ r, isB z) (h : sum (l ++ x :: r) = sum (l ++ y :: r)) : x = y := by
  unfold sum at h
  have b1 := run_lt (l ++ x :: r) 4294967295 (by omega) (by
    intro z hz
    simp only [List.mem_append, List.mem_cons] at hz
    rcases hz with k | rfl | k
    · exact hl z k
    · exact hx
    · exact hr z k)
  have b2 := run_lt (l ++ y :: r) 4294967295 (by omega) (by
    intro z hz
    simp only [List.mem_append, List.mem_cons] at hz
    rcases hz with k | rfl | k
    · exact hl z k
    · exact hy
    · exact hr z k)
  have h1 : run 4294967295 (l ++ x :: r) = run 4294967295 (l ++ y :: r) := by omega
  rw [run_append, run_append, run_cons, run_cons] at h1
  have hc := run_lt l 4294967295 (by omega) hl
  exact byte8_one hc hx hy (run_inj r _ _ (byte8_lt hc hx) (byte8_lt hc hy) hr h1)
end Fr
end Go.Proofs.YtobgbaejdamecaaDoor
