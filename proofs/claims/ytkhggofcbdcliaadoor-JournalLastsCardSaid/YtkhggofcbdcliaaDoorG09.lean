/-
  Plain mathematics of frame, one: the sum. Eight shifts of a byte one by one, or two times four looked up in a table; the sum tells one byte.
  What telltaleref05's Laid answers; the row that bytes begin with; a part of a list of bytes.
  frame's fourShifts: the table's half bytes.
  A number of 32 bits as four bytes, the highest first, and back: frame's wordBytes and wordOf, telltaleref07's four and length.
-/
import Derived.Test.YtkhggofcbdcliaaDoorG04
import Derived.Laws.BitsAllLaws
import Derived.Test.YtkhggofcbdcliaaDoorG03
import Derived.Deep.QuietTactic
import Derived.BigQuiet
import Derived.WalkSmall
namespace Go.Proofs.YtkhggofcbdcliaaDoor
open Go.RowKit

namespace Fr
def poly : Nat := 3988292384
/-- What a bit that falls out puts on. -/
def low (b : Nat) : Nat := if b % 2 = 1 then poly else 0
/-- One shift. -/
def step (c : Nat) : Nat := c / 2 ^^^ low c
/-- n shifts. -/
def steps : Nat → Nat → Nat
  | 0, c => c
  | n + 1, c => steps n (step c)
def byte8 (c : Nat) (x : Int) : Nat := steps 8 (c ^^^ x.toNat)
/-- The sum of bytes from one on, not turned yet. -/
def run (c : Nat) (l : List Int) : Nat := l.foldl byte8 c
/-- The sum of bytes. -/
def sum (l : List Int) : Nat := 4294967295 - run 4294967295 l
theorem run_append (c : Nat) (l r : List Int) : run c (l ++ r) = run (run c l) r := List.foldl_append
theorem run_cons (c : Nat) (x : Int) (r : List Int) : run c (x :: r) = run (byte8 c x) r := rfl

theorem low_lt (c : Nat) : low c < 4294967296 := by
  unfold low poly
  split <;> omega
theorem xor_lt {a b : Nat} (ha : a < 4294967296) (hb : b < 4294967296) : a ^^^ b < 4294967296 := Nat.xor_lt_two_pow (n := 32) ha hb
theorem step_lt {c : Nat} (h : c < 4294967296) : step c < 4294967296 := xor_lt (by omega) (low_lt c)
theorem steps_lt : ∀ n c, c < 4294967296 → steps n c < 4294967296
  | 0, _, h => h
  | n + 1, c, h => steps_lt n (step c) (step_lt h)
theorem byte8_lt {c : Nat} {x : Int} (h : c < 4294967296) (hx : isB x) : byte8 c x < 4294967296 := by
  unfold isB at hx
  exact steps_lt 8 _ (xor_lt h (by omega))
theorem run_lt : ∀ (l : List Int) (c : Nat), c < 4294967296 → (∀ x ∈ l, isB x) → run c l < 4294967296
  | [], _, h, _ => h
  | x :: r, _, h, hb => run_lt r _ (byte8_lt h (hb x (by simp))) (fun y hy => hb y (by simp [hy]))
theorem sum_lt (l : List Int) : sum l < 4294967296 := by
  unfold sum
  omega

/-- Shifts are linear. -/
theorem xor_half (a b : Nat) : (a ^^^ b) / 2 = a / 2 ^^^ b / 2 := by
  have h := Nat.shiftRight_xor_distrib (a := a) (b := b) (i := 1)
  simpa [Nat.shiftRight_eq_div_pow] using h
theorem xor_low (a b : Nat) : low (a ^^^ b) = low a ^^^ low b := by
  have h : (a ^^^ b) % 2 = (a % 2 + b % 2) % 2 := by
    have h1 := Nat.xor_mod_two_pow (a := a) (b := b) (n := 1)
    simp only [Nat.pow_one] at h1
    rw [h1]
    rcases Nat.mod_two_eq_zero_or_one a with ha | ha <;> rcases Nat.mod_two_eq_zero_or_one b with hb | hb <;> rw [ha, hb] <;> rfl
  unfold low
  rw [h]
  rcases Nat.mod_two_eq_zero_or_one a with ha | ha <;> rcases Nat.mod_two_eq_zero_or_one b with hb | hb <;> rw [ha, hb] <;> rfl
theorem step_xor (a b : Nat) : step (a ^^^ b) = step a ^^^ step b := by
  unfold step
  rw [xor_half, xor_low]
  ac_rfl
theorem steps_xor : ∀ n a b, steps n (a ^^^ b) = steps n a ^^^ steps n b
  | 0, _, _ => rfl
  | n + 1, a, b => by
    show steps n (step (a ^^^ b)) = _
    rw [step_xor, steps_xor n]
    rfl
/-- What n shifts leave: what lies above, and what the lowest n bits put on. -/
theorem steps_split : ∀ n c, steps n c = c / 2 ^ n ^^^ steps n (c % 2 ^ n)
  | 0, c => by
    show c = c / 1 ^^^ c % 1
    rw [Nat.div_one, Nat.mod_one, Nat.xor_zero]
  | n + 1, c => by
    have h1 : c % 2 ^ (n + 1) / 2 = c / 2 % 2 ^ n := by
      rw [Nat.pow_succ, Nat.mul_comm (2 ^ n) 2, Nat.mod_mul_right_div_self]
    have h2 : low (c % 2 ^ (n + 1)) = low c := by
      unfold low
      rw [Nat.pow_succ, Nat.mul_comm (2 ^ n) 2, Nat.mod_mul_right_mod]
    have h3 : c / 2 ^ (n + 1) = c / 2 / 2 ^ n := by
      rw [Nat.pow_succ, Nat.mul_comm (2 ^ n) 2, Nat.div_div_eq_div_mul]
    show steps n (step c) = c / 2 ^ (n + 1) ^^^ steps n (step (c % 2 ^ (n + 1)))
    have e1 : step c = c / 2 ^^^ low c := rfl
    have e2 : step (c % 2 ^ (n + 1)) = c / 2 % 2 ^ n ^^^ low c := by
      unfold step
      rw [h1, h2]
    rw [e1, e2, steps_xor, steps_xor, steps_split n (c / 2), h3]
    ac_rfl
/-- The table of what four shifts make of each half byte. -/
def tab : List Nat := [0, 498536548, 997073096, 651767980, 1994146192, 1802195444, 1303535960, 1342533948, 3988292384, 4027552580, 3604390888, 3412177804, 2607071920, 2262029012, 2685067896, 3183342108]
theorem tab_is : ∀ v : Fin 16, tab.getD v.val 0 = steps 4 v.val := by decide
def four (c : Nat) : Nat := c / 16 ^^^ tab.getD (c % 16) 0
theorem four_is (c : Nat) : four c = steps 4 c := by
  rw [steps_split 4 c]
  unfold four
  rw [tab_is ⟨c % 16, Nat.mod_lt _ (by omega)⟩]
theorem steps_add : ∀ n m c, steps (n + m) c = steps m (steps n c)
  | 0, m, c => by rw [Nat.zero_add]; rfl
  | n + 1, m, c => by
    rw [show n + 1 + m = (n + m) + 1 from by omega]
    exact steps_add n m (step c)
theorem byte8_four (c : Nat) (x : Int) : byte8 c x = four (four (c ^^^ x.toNat)) := by
  rw [four_is, four_is, ← steps_add]
  rfl
theorem tab_lt (v : Nat) (h : v < 16) : tab.getD v 0 < 4294967296 := by
  rw [tab_is ⟨v, h⟩]
  exact steps_lt 4 v (by omega)
theorem four_lt {c : Nat} (h : c < 4294967296) : four c < 4294967296 := by
  rw [four_is]
  exact steps_lt 4 c h

/-- A shift loses nothing: what is put on has the highest bit. -/
theorem xor_cancel {a b e : Nat} (h : a ^^^ e = b ^^^ e) : a = b := by
  have h1 : (a ^^^ e) ^^^ e = (b ^^^ e) ^^^ e := by rw [h]
  rwa [Nat.xor_assoc, Nat.xor_self, Nat.xor_zero, Nat.xor_assoc, Nat.xor_self, Nat.xor_zero] at h1
theorem step_inj {a b : Nat} (ha : a < 4294967296) (hb : b < 4294967296) (h : step a = step b) : a = b := by
  unfold step at h
  by_cases hp : a % 2 = b % 2
  · have hl : low a = low b := by
      unfold low
      rw [hp]
    rw [hl] at h
    have := xor_cancel h
    omega
  · exfalso
    have key : ∀ x y : Nat, x < 2147483648 → y < 2147483648 → x ^^^ poly = y → False := by
      intro x y hx hy hxy
      have h1 : poly = x ^^^ y := by
        rw [← hxy, ← Nat.xor_assoc, Nat.xor_self, Nat.zero_xor]
      have h2 : x ^^^ y < 2 ^ 31 := Nat.xor_lt_two_pow (n := 31) hx hy
      rw [← h1] at h2
      exact absurd h2 (by decide)
    rcases Nat.mod_two_eq_zero_or_one a with h1 | h1 <;> rcases Nat.mod_two_eq_zero_or_one b with h2 | h2
    · exact hp (by omega)
    · unfold low at h
      rw [h1, h2] at h
      simp only [Nat.zero_ne_one, if_false, if_true, Nat.xor_zero] at h
      exact key (b / 2) (a / 2) (by omega) (by omega) h.symm
    · unfold low at h
      rw [h1, h2] at h
      simp only [Nat.zero_ne_one, if_false, if_true, Nat.xor_zero] at h
      exact key (a / 2) (b / 2) (by omega) (by omega) h
    · exact hp (by omega)
theorem steps_inj : ∀ n a b, a < 4294967296 → b < 4294967296 → steps n a = steps n b → a = b
  | 0, _, _, _, _, h => h
  | n + 1, _, _, ha, hb, h => step_inj ha hb (steps_inj n _ _ (step_lt ha) (step_lt hb) h)
theorem byte8_inj {a b : Nat} {x : Int} (ha : a < 4294967296) (hb : b < 4294967296) (hx : isB x) (h : byte8 a x = byte8 b x) : a = b := by
  unfold isB at hx
  exact xor_cancel (steps_inj 8 _ _ (xor_lt ha (by omega)) (xor_lt hb (by omega)) h)
theorem byte8_one {c : Nat} {x y : Int} (hc : c < 4294967296) (hx : isB x) (hy : isB y) (h : byte8 c x = byte8 c y) : x = y := by
  unfold isB at hx hy
  have h1 := steps_inj 8 _ _ (xor_lt hc (by omega)) (xor_lt hc (by omega)) h
  rw [Nat.xor_comm c, Nat.xor_comm c] at h1
  have := xor_cancel h1
  omega
theorem run_inj : ∀ (l : List Int) (a b : Nat), a < 4294967296 → b < 4294967296 → (∀ x ∈ l, isB x) → run a l = run b l → a = b
  | [], _, _, _, _, _, h => h
  | x :: r, _, _, ha, hb, hl, h => byte8_inj ha hb (hl x (by simp)) (run_inj r _ _ (byte8_lt ha (hl x (by simp))) (byte8_lt hb (hl x (by simp))) (fun y hy => hl y (by simp [hy])) h)
/-- The sum tells one byte that is another one. -/
theorem sum_tells {l r : List Int} {x y : Int} (hl : ∀ z ∈ l, isB z) (hx : isB x) (hy : isB y) (hr : ∀ z ∈ r, isB z) (h : sum (l ++ x :: r) = sum (l ++ y :: r)) : x = y := by
  unfold sum at h
  have b1 := run_lt (l ++ x :: r) 4294967295 (by omega) (by
    intro z hz
    simp only [List.mem_append, List.mem_cons] at hz
    rcases hz with k | rfl | k
    · exact hl z k
    · exact hx
    · exact hr z k)
  have b2 := run_lt (l ++ y :: r) 4294967295 (by omega) (by
    intro z hz
    simp only [List.mem_append, List.mem_cons] at hz
    rcases hz with k | rfl | k
    · exact hl z k
    · exact hy
    · exact hr z k)
  have h1 : run 4294967295 (l ++ x :: r) = run 4294967295 (l ++ y :: r) := by omega
  rw [run_append, run_append, run_cons, run_cons] at h1
  have hc := run_lt l 4294967295 (by omega) hl
  exact byte8_one hc hx hy (run_inj r _ _ (byte8_lt hc hx) (byte8_lt hc hy) hr h1)
end Fr
end Go.Proofs.YtkhggofcbdcliaaDoor
namespace Go.Proofs.YtkhggofcbdcliaaDoor
open Go.RowKit

namespace Pk
def laid (l : List Int) : List Int := bytesOf l.length ++ l
/-- The row that bytes begin with, how many bytes there are, the error's number. -/
def row (l : List Int) (most : Int) : List Int × Int × Int :=
  if most < 0 then ([], 0, 1)
  else if (num l).2.2 ≠ 0 then ([], 0, (num l).2.2)
  else if most < (num l).1 then ([], 0, 4)
  else if (l.length : Int) - (num l).2.1 < (num l).1 then ([], 0, 5)
  else ((l.drop (num l).2.1.toNat).take (num l).1.toNat, (num l).2.1 + (num l).1, 0)
theorem num_ways (l : List Int) (hl : ∀ x ∈ l, isB x) : (num l = (0, 0, 4) ∨ num l = (0, 0, 5)) ∨ ∃ v k : Nat, num l = ((v : Int), (k : Int), 0) ∧ 1 ≤ k ∧ k ≤ l.length ∧ k ≤ 9 ∧ v ≤ 9223372036854775807 := by
  have h1 := lead_le 9 l
  by_cases h9 : lead 9 l = 9
  · exact .inl (.inl (num_nine h9))
  · by_cases hs : lead 9 l = l.length
    · exact .inl (.inr (num_short hs (by omega)))
    · by_cases hz : l.getD (lead 9 l) 0 = 0 ∧ 0 < lead 9 l
      · exact .inl (.inl (num_zero (by omega) (by omega) hz.1 hz.2))
      · obtain ⟨v, e1, e2⟩ := val_nat (l.take (lead 9 l + 1)) (fun x hx => hl x (List.mem_of_mem_take hx))
        have hlen : (l.take (lead 9 l + 1)).length ≤ 9 := by rw [List.length_take]; omega
        have hp : 128 ^ (l.take (lead 9 l + 1)).length ≤ 128 ^ 9 := Nat.pow_le_pow_right (by omega) hlen
        have h128 : (128 : Nat) ^ 9 = 9223372036854775808 := by decide
        exact .inr ⟨v, lead 9 l + 1, by rw [num_yes (by omega) (by omega) hz, e1]; rfl, by omega, by omega, by omega, by omega⟩
end Pk

/-- A list of bytes and two numbers. -/
def AnsB3 (l : List Int) (k e : Int) (w : World) (en : Ending) (w' : World) : Prop := ∃ A c, en = .returned (.tuple #[.slice A l.length c, .int .i64 k, .int .i64 e]) ∧ OneB w' A c l ∧ Below w.heap.size w w'
theorem GivesB.one {l : List Int} {w w' : World} {e : Ending} (h : GivesB l w e w') (hb : ∀ x ∈ l, isB x) : ∃ A c, e = .returned (.slice A l.length c) ∧ OneB w' A c l ∧ Below w.heap.size w w' := by
  obtain ⟨v, rfl, ho, hbw⟩ := h
  obtain ⟨A, c, rfl, hO⟩ := OneB.of_own ho hb
  exact ⟨A, c, rfl, hO, hbw⟩
theorem OneB.nil (w : World) : OneB w none 0 [] := ⟨Nat.le_refl _, Nat.zero_le _, fun _ => ⟨rfl, rfl⟩, fun h => absurd rfl h, fun x hx => by cases hx⟩
theorem OneB.part {w : World} {b off c : Nat} {l : List Int} (h : OneB w (some ⟨b, off, none⟩) c l) (k n : Nat) (hk : k + n ≤ l.length) : OneB w (some ⟨b, off + k, none⟩) (c - k) ((l.drop k).take n) := by
  have hlen : ((l.drop k).take n).length = n := by rw [List.length_take, List.length_drop]; omega
  refine ⟨by rw [hlen]; have := h.le; omega, by have := h.cap; omega, (fun h => by cases h), fun hne => ?_, fun x hx => h.byte x (List.mem_of_mem_drop (List.mem_of_mem_take hx))⟩
  have hl : l ≠ [] := fun e => by subst e; simp [bCells] at hne
  obtain ⟨b', off', hA, hc⟩ := h.at hl
  injection hA with hA
  injection hA with hA1 hA2
  subst hA1 hA2
  refine ⟨b, off + k, rfl, fun j u hu => ?_⟩
  have hj : j < n := by
    have := (List.getElem?_eq_some_iff.1 hu).1
    rw [bCells_length, hlen] at this
    exact this
  rw [bCells_get _ j (by rw [hlen]; exact hj)] at hu
  cases hu
  rw [Nat.add_assoc, hc (k + j) (by omega)]
  congr 2
  rw [List.getD_eq_getElem?_getD, List.getD_eq_getElem?_getD, List.getElem?_take, if_pos hj, List.getElem?_drop]

theorem bytesOf_byte (n : Nat) (h : n ≤ 9223372036854775807) : ∀ x ∈ Pk.bytesOf n, isB x := Pk.nb_byte 9 n (Nat.lt_of_le_of_lt h (by decide))

end Go.Proofs.YtkhggofcbdcliaaDoor
namespace Go.Proofs.YtkhggofcbdcliaaDoor
open Go.RowKit

/-- The table reads as its initialiser lays it. -/
def Halves (w : World) : Prop := ∀ v, v < 16 → w.cell? ⟨0, v, none⟩ = some (.int .u32 ((Fr.tab.getD v 0 : Nat) : Int))
theorem Halves.later {w w' : World} (h : Halves w) (hb : Below w.heap.size w w') : Halves w' := fun v hv => cell_later hb (h v hv)

set_option maxHeartbeats 800000 in
theorem fshift_any (c : Nat) (hc : c < 4294967296) (w : World) (hH : Halves w) :
    Calls Tryd.prog 60 #[.int .u32 (c : Int)] w (Says (.int .u32 ((Fr.four c : Nat) : Int)) w) := by
  have ha : bits BinOp.and IntKind.u32 (c : Int) 15 = ((c % 16 : Nat) : Int) := by
    have := u32_and_nat c 15 hc (by decide)
    rw [nat_mask4] at this
    exact this
  have hx : bits BinOp.xor IntKind.u32 ((c : Int) / 16) ((Fr.tab.getD (c % 16) 0 : Nat) : Int) = ((Fr.four c : Nat) : Int) := by
    have := u32_xor_nat (c / 16) (Fr.tab.getD (c % 16) 0) (by omega) (Fr.tab_lt _ (Nat.mod_lt _ (by omega)))
    unfold Fr.four
    rw [← this]
    rfl
  have c0 := hH (c % 16) (Nat.mod_lt _ (by omega))
  have hv : c % 16 < 16 := Nat.mod_lt _ (by omega)
  obtain ⟨v, hve⟩ : ∃ v, c % 16 = v := ⟨_, rfl⟩
  rw [hve] at ha hx c0 hv
  obtain ⟨t, hte⟩ : ∃ t, Fr.tab.getD v 0 = t := ⟨_, rfl⟩
  rw [hte] at hx c0
  obtain ⟨f, hfe⟩ : ∃ f, Fr.four c = f := ⟨_, rfl⟩
  rw [hfe] at hx ⊢
  clear hve hte hfe hH
  go_enter Tryd.func60, Tryd.ntmps60
  go_wp2
  go_ret
  exact ⟨rfl, Below.refl _ _⟩
end Go.Proofs.YtkhggofcbdcliaaDoor
namespace Go.Proofs.YtkhggofcbdcliaaDoor
open Go.RowKit

namespace Fr
/-- A number's four bytes. -/
def w4 (n : Nat) : List Int := [((n / 16777216 % 256 : Nat) : Int), ((n / 65536 % 256 : Nat) : Int), ((n / 256 % 256 : Nat) : Int), ((n % 256 : Nat) : Int)]
theorem w4_len (n : Nat) : (w4 n).length = 4 := rfl
theorem w4_byte (n : Nat) : ∀ x ∈ w4 n, isB x := by
  intro x hx
  unfold w4 at hx
  simp only [List.mem_cons, List.not_mem_nil, or_false] at hx
  unfold isB
  omega
/-- The number of four bytes. -/
def num4 (l : List Int) : Nat := (l.getD 0 0).toNat * 16777216 + (l.getD 1 0).toNat * 65536 + (l.getD 2 0).toNat * 256 + (l.getD 3 0).toNat
theorem num4_w4 (n : Nat) (h : n < 4294967296) (m : List Int) : num4 (w4 n ++ m) = n := by
  unfold num4 w4
  simp only [List.cons_append, List.getD_cons_zero, List.getD_cons_succ, Int.toNat_natCast]
  omega
end Fr

set_option maxHeartbeats 800000 in
theorem fword_any (n : Nat) (hn : n < 4294967296) (w : World) : Calls Tryd.prog 45 #[.int .u32 (n : Int)] w (GivesB (Fr.w4 n) w) := by
  go_enter Tryd.func45, Tryd.ntmps45
  go_wp2
  go_ret
  have e0 : (n : Int) / 16777216 = ((n / 16777216 % 256 : Nat) : Int) := by omega
  refine ⟨_, rfl, ⟨rfl, .inr ⟨w.heap.size, 4, _, rfl, Nat.le_refl _, heap_alloc_new w _, Nat.le_refl _, by unfold maxLen; omega, rfl, ?_⟩⟩, below_new (Below.refl _ _) _⟩
  rw [e0]
  rfl
theorem wraps_u32 (n : Int) (h₀ : 0 ≤ n) (h₁ : n < 2 ^ 32) : IntKind.u32.wrap n = n := by rw [IntKind.wrap_u32]; omega
theorem or32 (i : Nat) (x y : Int) (hx0 : 0 ≤ x) (hx1 : x < 4294967296) (hx : x % 2 ^ i = 0) (hy0 : 0 ≤ y) (hy : y < 2 ^ i ∧ y < 4294967296) : bits BinOp.or IntKind.u32 x y = x + y := bits_join .u32 32 (by decide) wraps_u32 i x y hx0 hx hx1 hy0 hy.1 hy.2
set_option maxHeartbeats 800000 in
theorem flen_any (A : Option Addr) (c : Nat) (l : List Int) (w : World) (h : OneB w A c l) (h4 : 4 ≤ l.length) : Calls Tryd.prog 72 #[.slice A l.length c] w (Says (.int .u32 ((Fr.num4 l : Nat) : Int)) w) := by
  obtain ⟨g, off, rfl, hc⟩ := h.at (by intro e; rw [e] at h4; simp at h4)
  have hb0 := h.byte _ (List.getElem_mem (l := l) (n := 0) (by omega))
  have hb1 := h.byte _ (List.getElem_mem (l := l) (n := 1) (by omega))
  have hb2 := h.byte _ (List.getElem_mem (l := l) (n := 2) (by omega))
  have hb3 := h.byte _ (List.getElem_mem (l := l) (n := 3) (by omega))
  have e0 : l.getD 0 0 = l[0] := by rw [List.getD_eq_getElem?_getD, List.getElem?_eq_getElem]; rfl
  have e1 : l.getD 1 0 = l[1] := by rw [List.getD_eq_getElem?_getD, List.getElem?_eq_getElem]; rfl
  have e2 : l.getD 2 0 = l[2] := by rw [List.getD_eq_getElem?_getD, List.getElem?_eq_getElem]; rfl
  have e3 : l.getD 3 0 = l[3] := by rw [List.getD_eq_getElem?_getD, List.getElem?_eq_getElem]; rfl
  have c0 := hc 0 (by omega)
  have c1 := hc 1 (by omega)
  have c2 := hc 2 (by omega)
  have c3 := hc 3 (by omega)
  unfold Fr.num4
  rw [e0] at c0 ⊢; rw [e1] at c1 ⊢; rw [e2] at c2 ⊢; rw [e3] at c3 ⊢
  generalize l[0] = x0 at *
  generalize l[1] = x1 at *
  generalize l[2] = x2 at *
  generalize l[3] = x3 at *
  have hcap := h.cap
  have hle := h.le
  unfold maxLen at hcap
  unfold isB at hb0 hb1 hb2 hb3
  rw [Nat.add_zero] at c0
  clear h hc e0 e1 e2 e3
  have i0 : (0 : Int) < (l.length : Int) := by omega
  have i1 : (1 : Int) < (l.length : Int) := by omega
  have i2 : (2 : Int) < (l.length : Int) := by omega
  have i3 : (3 : Int) < (l.length : Int) := by omega
  obtain ⟨k, hk⟩ : ∃ k, l.length = k := ⟨_, rfl⟩
  rw [hk] at hle h4 i0 i1 i2 i3 ⊢
  clear hk
  go_enter Tryd.func72, Tryd.ntmps72
  go_wp2_with fail
  go_quiet (fail)
  go_wp2
  go_ret
  refine ⟨?_, below_drewN (Below.refl _ _) _⟩
  have j1 : bits BinOp.or IntKind.u32 (x0 * 16777216) (x1 * 65536) = x0 * 16777216 + x1 * 65536 := or32 24 _ _ (by omega) (by omega) (by omega) (by omega) (by omega)
  have j2 : bits BinOp.or IntKind.u32 (x0 * 16777216 + x1 * 65536) (x2 * 256) = x0 * 16777216 + x1 * 65536 + x2 * 256 := or32 16 _ _ (by omega) (by omega) (by omega) (by omega) (by omega)
  have j3 : bits BinOp.or IntKind.u32 (x0 * 16777216 + x1 * 65536 + x2 * 256) x3 = x0 * 16777216 + x1 * 65536 + x2 * 256 + x3 := or32 8 _ _ (by omega) (by omega) (by omega) (by omega) (by omega)
  rw [show ((x0.toNat * 16777216 + x1.toNat * 65536 + x2.toNat * 256 + x3.toNat : Nat) : Int) = x0 * 16777216 + x1 * 65536 + x2 * 256 + x3 by omega, ← j3, ← j2, ← j1]
  rfl
end Go.Proofs.YtkhggofcbdcliaaDoor
