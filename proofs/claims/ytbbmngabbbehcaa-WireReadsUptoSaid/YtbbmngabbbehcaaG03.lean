/-
  What telltaleref05's Laid answers; the row that bytes begin with; a part of a list of bytes.
  Numbers' bytes, there and back: what is read, laid again, are the same bytes; what is laid is read as it was.
  Answers: a value; a list of pairs of numbers, wherever it lies. Lists in blocks of one's own. Nothing of the program is imported.
  Plain mathematics of sets of objects: which objects are in a list of spans; arrays of 256 marks; the list of a set. Nothing of the program is imported.
-/
import Derived.Test.YtbbmngabbbehcaaG02
import Derived.Test.YtbbmngabbbehcaaG01
namespace Go.Proofs.Ytbbmngabbbehcaa
open Go.RowKit

namespace Pk
def laid (l : List Int) : List Int := bytesOf l.length ++ l
/-- The row that bytes begin with, how many bytes there are, the error's number. -/
def row (l : List Int) (most : Int) : List Int × Int × Int :=
  if most < 0 then ([], 0, 1)
  else if (num l).2.2 ≠ 0 then ([], 0, (num l).2.2)
  else if most < (num l).1 then ([], 0, 4)
  else if (l.length : Int) - (num l).2.1 < (num l).1 then ([], 0, 5)
  else ((l.drop (num l).2.1.toNat).take (num l).1.toNat, (num l).2.1 + (num l).1, 0)
theorem num_ways (l : List Int) (hl : ∀ x ∈ l, isB x) : (num l = (0, 0, 4) ∨ num l = (0, 0, 5)) ∨ ∃ v k : Nat, num l = ((v : Int), (k : Int), 0) ∧ 1 ≤ k ∧ k ≤ l.length ∧ k ≤ 9 ∧ v ≤ 9223372036854775807 := by
  have h1 := lead_le 9 l
  by_cases h9 : lead 9 l = 9
  · exact .inl (.inl (num_nine h9))
  · by_cases hs : lead 9 l = l.length
    · exact .inl (.inr (num_short hs (by omega)))
    · by_cases hz : l.getD (lead 9 l) 0 = 0 ∧ 0 < lead 9 l
      · exact .inl (.inl (num_zero (by omega) (by omega) hz.1 hz.2))
      · obtain ⟨v, e1, e2⟩ := val_nat (l.take (lead 9 l + 1)) (fun x hx => hl x (List.mem_of_mem_take hx))
        have hlen : (l.take (lead 9 l + 1)).length ≤ 9 := by rw [List.length_take]; omega
        have hp : 128 ^ (l.take (lead 9 l + 1)).length ≤ 128 ^ 9 := Nat.pow_le_pow_right (by omega) hlen
        have h128 : (128 : Nat) ^ 9 = 9223372036854775808 := by decide
        exact .inr ⟨v, lead 9 l + 1, by rw [num_yes (by omega) (by omega) hz, e1]; rfl, by omega, by omega, by omega, by omega⟩
end Pk

/-- A list of bytes and two numbers. -/
def AnsB3 (l : List Int) (k e : Int) (w : World) (en : Ending) (w' : World) : Prop := ∃ A c, en = .returned (.tuple #[.slice A l.length c, .int .i64 k, .int .i64 e]) ∧ OneB w' A c l ∧ Below w.heap.size w w'
theorem GivesB.one {l : List Int} {w w' : World} {e : Ending} (h : GivesB l w e w') (hb : ∀ x ∈ l, isB x) : ∃ A c, e = .returned (.slice A l.length c) ∧ OneB w' A c l ∧ Below w.heap.size w w' := by
  obtain ⟨v, rfl, ho, hbw⟩ := h
  obtain ⟨A, c, rfl, hO⟩ := OneB.of_own ho hb
  exact ⟨A, c, rfl, hO, hbw⟩
theorem OneB.nil (w : World) : OneB w none 0 [] := ⟨Nat.le_refl _, Nat.zero_le _, fun _ => ⟨rfl, rfl⟩, fun h => absurd rfl h, fun x hx => by cases hx⟩
theorem OneB.part {w : World} {b off c : Nat} {l : List Int} (h : OneB w (some ⟨b, off, none⟩) c l) (k n : Nat) (hk : k + n ≤ l.length) : OneB w (some ⟨b, off + k, none⟩) (c - k) ((l.drop k).take n) := by
  have hlen : ((l.drop k).take n).length = n := by rw [List.length_take, List.length_drop]; omega
  refine ⟨by rw [hlen]; have := h.le; omega, by have := h.cap; omega, (fun h => by cases h), fun hne => ?_, fun x hx => h.byte x (List.mem_of_mem_drop (List.mem_of_mem_take hx))⟩
  have hl : l ≠ [] := fun e => by subst e; simp [bCells] at hne
  obtain ⟨b', off', hA, hc⟩ := h.at hl
  injection hA with hA
  injection hA with hA1 hA2
  subst hA1 hA2
  refine ⟨b, off + k, rfl, fun j u hu => ?_⟩
  have hj : j < n := by
    have := (List.getElem?_eq_some_iff.1 hu).1
    rw [bCells_length, hlen] at this
    exact this
  rw [bCells_get _ j (by rw [hlen]; exact hj)] at hu
  cases hu
  rw [Nat.add_assoc, hc (k + j) (by omega)]
  congr 2
  rw [List.getD_eq_getElem?_getD, List.getD_eq_getElem?_getD, List.getElem?_take, if_pos hj, List.getElem?_drop]

theorem bytesOf_byte (n : Nat) (h : n ≤ 9223372036854775807) : ∀ x ∈ Pk.bytesOf n, isB x := Pk.nb_byte 9 n (Nat.lt_of_le_of_lt h (by decide))

set_option maxHeartbeats 1600000 in
theorem blaid_any (A : Option Addr) (c1 : Nat) (l : List Int) (w : World) (hl : l.length + 10 ≤ 140737488355328) (h1 : OneB w A c1 l) :
    Calls Try.prog 70 #[.slice A l.length c1] w (GivesB (Pk.laid l) w) := by
  obtain ⟨i0, hi, hz0, hz1, hz2⟩ := info_parts infoBy
  have N1 := Lib.hid (bytes_any l.length w (by omega))
  have hnl := (Pk.nb_len 9 l.length).2
  have hnl : (Pk.bytesOf l.length).length ≤ 10 := hnl
  have H1 := Lib.hid h1
  clear h1
  unfold Pk.laid
  obtain ⟨p, hp⟩ : ∃ p, Pk.bytesOf l.length = p := ⟨_, rfl⟩
  rw [hp] at N1 hnl ⊢
  clear hp
  go_enter Try.func70, Try.ntmps70
  go_wp2_with fail
  refine N1.out.mono ?_
  rintro e w1 ⟨v, rfl, ho, b1⟩
  have HA := Lib.hid H1.out.noA
  have hL := H1.out.lies.later b1
  have hsz := b1.size
  go_wp2_with (at_builtin; refine wpList_append_lies _ rfl _ _ 23 rfl w.heap.size 5 i0 (.int .u8 0) 1 1 Try.underlying23 hi hz0 hz1 hz2 rfl (by decide) _ p.length (bCells p) rfl ho A l.length c1 HA.out (bCells l) rfl (by rw [bCells_length, Nat.mul_one]) hL (bCells_one l) ?c3 ?c4 ?c5 ?_)
  case c3 => unfold maxLen; omega
  case c4 => omega
  case c5 => omega
  intro v' w2 hown1 hg1 _
  have hb1 : Below w.heap.size w w2 := b1.grown hg1 hsz (fun k' hk' => own_ge ho _ hk')
  rw [← bCells_append, show p.length + l.length = (p ++ l).length from by simp] at hown1
  have HO := Lib.hid hown1
  clear hown1 hg1 ho N1
  go_wp2
  go_ret
  exact ⟨_, rfl, HO.out, hb1⟩

end Go.Proofs.Ytbbmngabbbehcaa
namespace Go.Proofs.Ytbbmngabbbehcaa
open Go.RowKit

namespace Pk
theorem nb_canon : ∀ f l, (∀ x ∈ l, isB x) → lead f l < f → lead f l < l.length → ¬ (l.getD (lead f l) 0 = 0 ∧ 0 < lead f l) →
    ∃ v : Nat, val (l.take (lead f l + 1)) = (v : Int) ∧ nb f v = l.take (lead f l + 1) ∧ (l.getD (lead f l) 0 ≠ 0 → 1 ≤ v)
  | 0, l, _, h, _, _ => absurd h (by omega)
  | f + 1, [], _, _, h, _ => absurd h (by simp)
  | f + 1, b :: r, hb, h1, h2, h3 => by
    have hbb := hb b (by simp)
    unfold isB at hbb
    by_cases hc : 128 ≤ b
    · have hl : lead (f + 1) (b :: r) = lead f r + 1 := by
        show (if 128 ≤ b then lead f r + 1 else 0) = _
        rw [if_pos hc]
      rw [hl] at h1 h2 h3 ⊢
      have hg : (b :: r).getD (lead f r + 1) 0 = r.getD (lead f r) 0 := by simp
      rw [hg] at h3 ⊢
      have hnz : r.getD (lead f r) 0 ≠ 0 := fun e => h3 ⟨e, by omega⟩
      obtain ⟨v, e1, e2, e3⟩ := nb_canon f r (fun x hx => hb x (List.mem_cons_of_mem _ hx)) (by omega) (by simpa using h2) (fun e => hnz e.1)
      have hv := e3 hnz
      refine ⟨v * 128 + (b - 128).toNat, ?_, ?_, fun _ => by omega⟩
      · show val (r.take (lead f r + 1)) * 128 + b % 128 = _
        rw [e1]
        omega
      · unfold nb
        rw [if_neg (by omega), show (v * 128 + (b - 128).toNat) / 128 = v from by omega, e2, show (((v * 128 + (b - 128).toNat) % 128 + 128 : Nat) : Int) = b from by omega]
        rfl
    · have hl : lead (f + 1) (b :: r) = 0 := by
        show (if 128 ≤ b then lead f r + 1 else 0) = _
        rw [if_neg hc]
      rw [hl] at h1 h2 h3 ⊢
      refine ⟨b.toNat, ?_, ?_, fun e => ?_⟩
      · show (0 : Int) * 128 + b % 128 = _
        omega
      · unfold nb
        rw [if_pos (by omega), show ((b.toNat : Nat) : Int) = b from by omega]
        rfl
      · have : b ≠ 0 := by simpa using e
        omega

/-- What is read, laid again, are the same bytes. -/
theorem num_back (l : List Int) (hl : ∀ x ∈ l, isB x) (v k : Nat) (h : num l = ((v : Int), (k : Int), 0)) : bytesOf v = l.take k := by
  have h0 := lead_le 9 l
  unfold num at h
  split at h
  · simp at h
  · split at h
    · simp at h
    · split at h
      · simp at h
      · rename_i h9 hs hz
        obtain ⟨u, e1, e2, _⟩ := nb_canon 9 l hl (by omega) (by omega) hz
        rw [e1] at h
        injection h with h1 h2
        injection h2 with h2 _
        have hu : u = v := by omega
        have hk : k = lead 9 l + 1 := by omega
        subst hu
        subst hk
        exact e2

theorem lead_nb : ∀ f n (m : List Int), n < 128 ^ (f + 1) → lead (f + 1) (nb (f + 1) n ++ m) ≤ f ∧ lead (f + 1) (nb (f + 1) n ++ m) + 1 = (nb (f + 1) n).length ∧ (1 ≤ n → (nb (f + 1) n ++ m).getD (lead (f + 1) (nb (f + 1) n ++ m)) 0 ≠ 0)
  | f, n, m, h => by
    by_cases hn : n < 128
    · have hb : nb (f + 1) n = [(n : Int)] := by unfold nb; rw [if_pos hn]
      rw [hb]
      have hl : lead (f + 1) ([(n : Int)] ++ m) = 0 := by
        show (if 128 ≤ (n : Int) then lead f m + 1 else 0) = 0
        rw [if_neg (by omega)]
      rw [hl]
      exact ⟨Nat.zero_le _, rfl, fun h1 => by
        show (n : Int) ≠ 0
        omega⟩
    · match f, h with
      | 0, h => simp at h; omega
      | f + 1, h =>
        have hb : nb (f + 1 + 1) n = ((n % 128 + 128 : Nat) : Int) :: nb (f + 1) (n / 128) := by
          rw [nb, if_neg hn]
        have hd : n / 128 < 128 ^ (f + 1) := by
          rw [Nat.div_lt_iff_lt_mul (by omega)]
          rw [Nat.pow_succ] at h
          exact h
        obtain ⟨i1, i2, i3⟩ := lead_nb f (n / 128) m hd
        rw [hb]
        have hl : lead (f + 1 + 1) (((n % 128 + 128 : Nat) : Int) :: nb (f + 1) (n / 128) ++ m) = lead (f + 1) (nb (f + 1) (n / 128) ++ m) + 1 := by
          show (if 128 ≤ ((n % 128 + 128 : Nat) : Int) then lead (f + 1) (nb (f + 1) (n / 128) ++ m) + 1 else 0) = _
          rw [if_pos (by omega)]
        rw [hl]
        refine ⟨by omega, by rw [List.length_cons]; omega, fun _ => ?_⟩
        have k := i3 (by omega)
        rw [List.cons_append, List.getD_cons_succ]
        exact k

/-- What is laid is read as it was, whatever stands behind. -/
theorem num_laid (n : Nat) (hn : n ≤ 9223372036854775807) (m : List Int) : num (bytesOf n ++ m) = ((n : Int), ((bytesOf n).length : Int), 0) := by
  have h128 : (128 : Nat) ^ 9 = 9223372036854775808 := by decide
  have h1280 : (128 : Nat) ^ 10 = 1180591620717411303424 := by decide
  obtain ⟨i1, i2, i3⟩ : lead 9 (nb 9 n ++ m) ≤ 8 ∧ lead 9 (nb 9 n ++ m) + 1 = (nb 9 n).length ∧ (1 ≤ n → (nb 9 n ++ m).getD (lead 9 (nb 9 n ++ m)) 0 ≠ 0) := lead_nb 8 n m (by omega)
  have hz := i3
  unfold bytesOf at *
  unfold num
  rw [if_neg (by omega), if_neg (by rw [List.length_append]; have := nb_len 9 n; omega)]
  rw [if_neg ?_, i2, List.take_append_of_le_length (Nat.le_refl _), List.take_length, val_nb 9 n (by omega)]
  · rw [← i2]
    rfl
  · rintro ⟨e1, e2⟩
    by_cases h0 : 1 ≤ n
    · exact hz h0 e1
    · have : n = 0 := by omega
      subst this
      have : lead 9 (nb 9 0 ++ m) = 0 := by
        have : (nb 9 0).length = 1 := rfl
        omega
      omega

/-- A row that is laid is read as it was, whatever stands behind. -/
theorem row_laid (r m : List Int) (hr : r.length ≤ 9223372036854775807) : row (laid r ++ m) (r.length : Int) = (r, ((laid r).length : Int), 0) := by
  have hl : laid r ++ m = bytesOf r.length ++ (r ++ m) := by unfold laid; rw [List.append_assoc]
  have hrow : ∀ l most, row l most = if most < 0 then ([], 0, 1) else if (num l).2.2 ≠ 0 then ([], 0, (num l).2.2) else if most < (num l).1 then ([], 0, 4) else if (l.length : Int) - (num l).2.1 < (num l).1 then ([], 0, 5) else ((l.drop (num l).2.1.toNat).take (num l).1.toNat, (num l).2.1 + (num l).1, 0) := fun _ _ => rfl
  rw [hl, hrow, num_laid r.length hr (r ++ m), if_neg (by omega), if_neg (by simp), if_neg (by simp), if_neg (by simp; omega)]
  have hd : (bytesOf r.length ++ (r ++ m)).drop (bytesOf r.length).length = r ++ m := List.drop_left
  simp only [Int.toNat_natCast]
  rw [hd, List.take_left]
  unfold laid
  rw [List.length_append]
  simp
end Pk

namespace Pk
/-- The ways of a row, from bytes that begin with a number or not. -/
theorem row_ways (l : List Int) (most : Int) (hl : ∀ x ∈ l, isB x) : (∃ e : Int, (e = 1 ∨ e = 4 ∨ e = 5) ∧ row l most = ([], 0, e)) ∨ ∃ (q : List Int) (j : Nat), row l most = (q, (j : Int), 0) ∧ laid q = l.take j ∧ j ≤ l.length ∧ (∀ x ∈ q, isB x) ∧ q.length + 1 ≤ j := by
  have hrow : row l most = if most < 0 then ([], 0, 1) else if (num l).2.2 ≠ 0 then ([], 0, (num l).2.2) else if most < (num l).1 then ([], 0, 4) else if (l.length : Int) - (num l).2.1 < (num l).1 then ([], 0, 5) else ((l.drop (num l).2.1.toNat).take (num l).1.toNat, (num l).2.1 + (num l).1, 0) := rfl
  by_cases hm : most < 0
  · exact .inl ⟨1, .inl rfl, by rw [hrow, if_pos hm]⟩
  · rw [if_neg hm] at hrow
    rcases num_ways l hl with (hw | hw) | ⟨v, k, hw, hk1, hkl, hk9, hv⟩
    · exact .inl ⟨4, .inr (.inl rfl), by rw [hrow, hw]; rfl⟩
    · exact .inl ⟨5, .inr (.inr rfl), by rw [hrow, hw]; rfl⟩
    · rw [hw] at hrow
      have hrow : row l most = if most < (v : Int) then ([], 0, 4) else if (l.length : Int) - (k : Int) < (v : Int) then ([], 0, 5) else ((l.drop k).take v, (k : Int) + (v : Int), 0) := hrow
      by_cases h2 : most < (v : Int)
      · exact .inl ⟨4, .inr (.inl rfl), by rw [hrow, if_pos h2]⟩
      · rw [if_neg h2] at hrow
        by_cases h3 : (l.length : Int) - (k : Int) < (v : Int)
        · exact .inl ⟨5, .inr (.inr rfl), by rw [hrow, if_pos h3]⟩
        · rw [if_neg h3] at hrow
          have hq : ((l.drop k).take v).length = v := by rw [List.length_take, List.length_drop]; omega
          refine .inr ⟨(l.drop k).take v, k + v, by rw [hrow]; rfl, ?_, by omega, fun x hx => hl x (List.mem_of_mem_drop (List.mem_of_mem_take hx)), by omega⟩
          unfold laid
          rw [hq, num_back l hl v k hw, List.take_add]
theorem row_err (l : List Int) (most e : Int) (hm : ¬ most < 0) (h : num l = (0, 0, e)) (he : e ≠ 0) : row l most = ([], 0, e) := by
  have hrow : row l most = if most < 0 then ([], 0, 1) else if (num l).2.2 ≠ 0 then ([], 0, (num l).2.2) else if most < (num l).1 then ([], 0, 4) else if (l.length : Int) - (num l).2.1 < (num l).1 then ([], 0, 5) else ((l.drop (num l).2.1.toNat).take (num l).1.toNat, (num l).2.1 + (num l).1, 0) := rfl
  rw [hrow, if_neg hm, h, if_pos he]
end Pk

end Go.Proofs.Ytbbmngabbbehcaa
namespace Go.Proofs.Ytbbmngabbbehcaa
open Go.RowKit

/-- A list is answered; what was there before is as it was. -/
def Ans (l : List (Int × Int)) (w : World) (e : Ending) (w' : World) : Prop := ∃ A c, e = .returned (.slice A l.length c) ∧ OneL w' A c l ∧ Below w.heap.size w w'
/-- A value is answered; what was there before is as it was. -/
def Says (v : Value) (w : World) (e : Ending) (w' : World) : Prop := e = .returned v ∧ Below w.heap.size w w'

theorem two_slots (w : World) (x y : Value) (t : TypeId) : Blk (w.alloc (.cells #[x, y] t)) w.heap.size t #[x, y] := Blk.new w t _

/-- Two lists in a block of two. -/
theorem rows_two {w : World} {g : Nat} {t : TypeId} {A B : Option Addr} {c d : Nat} {l r : List (Int × Int)} (hB : Blk w g t #[.slice A l.length c, .slice B r.length d]) (h1 : OneL w A c l) (h2 : OneL w B d r) : Rows w (some ⟨g, 0, none⟩) [l, r] := fun _ => ⟨g, 0, rfl, fun k hk => by
  have hk2 : k = 0 ∨ k = 1 := by simp at hk; omega
  rcases hk2 with rfl | rfl
  · exact ⟨A, c, hB.cell rfl, h1⟩
  · exact ⟨B, d, hB.cell rfl, h2⟩⟩
/-- One stamp in a block of its own. -/
theorem one_stamp {w : World} {g : Nat} {t : TypeId} {c n : Int} (hB : Blk w g t #[.int .i64 c, .int .i64 n]) : OneL w (some ⟨g, 0, none⟩) 1 [(c, n)] :=
  ⟨Nat.le_refl _, (by unfold maxLen; omega), (fun h => by cases h), fun _ => ⟨g, 0, rfl, fun j u hu => by
    rw [Nat.zero_add]
    exact hB.cell (by simpa [stCells] using hu)⟩⟩
/-- One list in a block of one. -/
theorem rows_one {w : World} {g : Nat} {t : TypeId} {A : Option Addr} {c : Nat} {l : List (Int × Int)} (hB : Blk w g t #[.slice A l.length c]) (h1 : OneL w A c l) : Rows w (some ⟨g, 0, none⟩) [l] := fun _ => ⟨g, 0, rfl, fun k hk => by
  have hk0 : k = 0 := by simp at hk; omega
  subst hk0
  exact ⟨A, c, hB.cell rfl, h1⟩⟩

end Go.Proofs.Ytbbmngabbbehcaa
namespace Go.Proofs.Ytbbmngabbbehcaa
namespace Sp

/-- Is an object in a list of spans? -/
def inL (l : List (Int × Int)) (o : Nat) : Bool := l.any fun s => decide (s.1 ≤ (o : Int) ∧ (o : Int) ≤ s.2)
theorem inL_iff (l : List (Int × Int)) (o : Nat) : inL l o = true ↔ ∃ s ∈ l, s.1 ≤ (o : Int) ∧ (o : Int) ≤ s.2 := by
  unfold inL
  rw [List.any_eq_true]
  constructor
  · rintro ⟨s, h1, h2⟩
    exact ⟨s, h1, of_decide_eq_true h2⟩
  · rintro ⟨s, h1, h2⟩
    exact ⟨s, h1, decide_eq_true h2⟩
theorem inL_snoc (l : List (Int × Int)) (s : Int × Int) (o : Nat) : inL (l ++ [s]) o = (inL l o || decide (s.1 ≤ (o : Int) ∧ (o : Int) ≤ s.2)) := by
  unfold inL
  rw [List.any_append]
  simp
theorem inL_take (l : List (Int × Int)) (k : Nat) (h : k < l.length) (o : Nat) : inL (l.take (k + 1)) o = (inL (l.take k) o || decide (l[k].1 ≤ (o : Int) ∧ (o : Int) ≤ l[k].2)) := by
  rw [List.take_succ_eq_append_getElem h, inL_snoc]

/-- An array of 256 marks, as cells. -/
def arr (f : Nat → Bool) : Array Value := ((List.range 256).map fun i => Value.bool (f i)).toArray
theorem arr_size (f : Nat → Bool) : (arr f).size = 256 := by simp [arr]
theorem arr_get (f : Nat → Bool) (i : Nat) (h : i < 256) : (arr f)[i]? = some (.bool (f i)) := by simp [arr, h]
theorem arr_ext {f g : Nat → Bool} (h : ∀ i, i < 256 → f i = g i) : arr f = arr g := by
  unfold arr
  congr 1
  apply List.map_congr_left
  intro i hi
  rw [h i (List.mem_range.1 hi)]
theorem arr_set (f : Nat → Bool) (i : Nat) (x : Bool) (_h : i < 256) : (arr f).setIfInBounds i (.bool x) = arr (fun j => if j = i then x else f j) := by
  apply Array.ext_getElem?
  intro j
  by_cases hj : j < 256
  · rw [arr_get _ j hj, Array.getElem?_setIfInBounds]
    by_cases e : i = j
    · subst e
      rw [if_pos rfl, if_pos (by rw [arr_size]; exact hj), if_pos rfl]
    · rw [if_neg e, arr_get _ j hj, if_neg (fun h => e h.symm)]
  · rw [Array.getElem?_eq_none (by rw [Array.size_setIfInBounds, arr_size]; omega), Array.getElem?_eq_none (by rw [arr_size]; omega)]

/-- An array of 257 numbers, as cells. -/
def nar (f : Nat → Int) : Array Value := ((List.range 257).map fun i => Value.int .i64 (f i)).toArray
theorem nar_size (f : Nat → Int) : (nar f).size = 257 := by simp [nar]
theorem nar_get (f : Nat → Int) (i : Nat) (h : i < 257) : (nar f)[i]? = some (.int .i64 (f i)) := by simp [nar, h]
theorem nar_ext {f g : Nat → Int} (h : ∀ i, i < 257 → f i = g i) : nar f = nar g := by
  unfold nar
  congr 1
  apply List.map_congr_left
  intro i hi
  rw [h i (List.mem_range.1 hi)]
theorem nar_set (f : Nat → Int) (i : Nat) (x : Int) : (nar f).setIfInBounds i (.int .i64 x) = nar (fun j => if j = i then x else f j) := by
  apply Array.ext_getElem?
  intro j
  by_cases hj : j < 257
  · rw [nar_get _ j hj, Array.getElem?_setIfInBounds]
    by_cases e : i = j
    · subst e
      rw [if_pos rfl, if_pos (by rw [nar_size]; exact hj), if_pos rfl]
    · rw [if_neg e, nar_get _ j hj, if_neg (fun h => e h.symm)]
  · rw [Array.getElem?_eq_none (by rw [Array.size_setIfInBounds, nar_size]; omega), Array.getElem?_eq_none (by rw [nar_size]; omega)]

/-- The last span reaches up to an object now. -/
def reach (l : List (Int × Int)) (x : Int) : List (Int × Int) := l.dropLast ++ [((l.getD (l.length - 1) (0, 0)).1, x)]
/-- The list of a set, up to object k. -/
def ofTo (f : Nat → Bool) : Nat → List (Int × Int)
  | 0 => []
  | k + 1 => if f k = true then (if 0 < k ∧ f (k - 1) = true then reach (ofTo f k) (k : Int) else ofTo f k ++ [((k : Int), (k : Int))]) else ofTo f k
def ofL (f : Nat → Bool) : List (Int × Int) := ofTo f 256
theorem ofTo_ext {f g : Nat → Bool} : ∀ k, (∀ i, i < k → f i = g i) → ofTo f k = ofTo g k
  | 0, _ => rfl
  | k + 1, h => by
    rw [ofTo, ofTo, ofTo_ext k (fun i hi => h i (by omega)), h k (by omega)]
    cases k with
    | zero => simp
    | succ m => rw [show m + 1 - 1 = m from rfl, h m (by omega)]
theorem ofL_ext {f g : Nat → Bool} (h : ∀ i, i < 256 → f i = g i) : ofL f = ofL g := ofTo_ext 256 h

/-- A list of spans as it must be, up to place b: within the objects, by rising places, apart. -/
def good (b : Int) (l : List (Int × Int)) : Prop := ∀ j, j < l.length → 0 ≤ (l.getD j (0, 0)).1 ∧ (l.getD j (0, 0)).1 ≤ (l.getD j (0, 0)).2 ∧ (l.getD j (0, 0)).2 < b ∧ (0 < j → (l.getD (j - 1) (0, 0)).2 + 1 < (l.getD j (0, 0)).1)
theorem good_nil (b : Int) : good b [] := fun j hj => by simp at hj
theorem good.mono {b c : Int} {l : List (Int × Int)} (h : good b l) (hbc : b ≤ c) : good c l := fun j hj => by
  obtain ⟨h1, h2, h3, h4⟩ := h j hj
  exact ⟨h1, h2, by omega, h4⟩
theorem getD_snoc_lt (l : List (Int × Int)) (s : Int × Int) (j : Nat) (h : j < l.length) : (l ++ [s]).getD j (0, 0) = l.getD j (0, 0) := by
  rw [List.getD_eq_getElem?_getD, List.getElem?_append_left h, List.getD_eq_getElem?_getD]
theorem getD_snoc_eq (l : List (Int × Int)) (s : Int × Int) : (l ++ [s]).getD l.length (0, 0) = s := by
  rw [List.getD_eq_getElem?_getD, List.getElem?_append_right (Nat.le_refl _), Nat.sub_self]
  rfl
theorem good.snoc {b : Int} {l : List (Int × Int)} (h : good b l) (s : Int × Int) (c : Int) (h1 : 0 ≤ s.1) (h2 : s.1 ≤ s.2) (h3 : s.2 < c) (hc : b ≤ c) (h4 : 0 < l.length → (l.getD (l.length - 1) (0, 0)).2 + 1 < s.1) : good c (l ++ [s]) := fun j hj => by
  rw [List.length_append, List.length_singleton] at hj
  rcases Nat.lt_or_ge j l.length with hlt | hge
  · rw [getD_snoc_lt l s j hlt, getD_snoc_lt l s (j - 1) (by omega)]
    obtain ⟨q1, q2, q3, q4⟩ := h j hlt
    exact ⟨q1, q2, by omega, q4⟩
  · have hj : j = l.length := by omega
    subst hj
    rw [getD_snoc_eq]
    refine ⟨h1, h2, h3, fun h0 => ?_⟩
    rw [getD_snoc_lt l s _ (by omega)]
    exact h4 h0
theorem dropLast_getD (l : List (Int × Int)) (j : Nat) (h : j < l.length - 1) : l.dropLast.getD j (0, 0) = l.getD j (0, 0) := by
  rw [List.getD_eq_getElem?_getD, List.getD_eq_getElem?_getD, List.getElem?_dropLast, if_pos h]
theorem reach_len (l : List (Int × Int)) (x : Int) (h : 0 < l.length) : (reach l x).length = l.length := by
  unfold reach
  rw [List.length_append, List.length_dropLast, List.length_singleton]
  omega
theorem reach_last (l : List (Int × Int)) (x : Int) : (reach l x).getD (l.length - 1) (0, 0) = ((l.getD (l.length - 1) (0, 0)).1, x) := by
  unfold reach
  have h2 := getD_snoc_eq l.dropLast ((l.getD (l.length - 1) (0, 0)).1, x)
  rw [List.length_dropLast] at h2
  exact h2
theorem reach_old (l : List (Int × Int)) (x : Int) (j : Nat) (h : j < l.length - 1) : (reach l x).getD j (0, 0) = l.getD j (0, 0) := by
  unfold reach
  rw [getD_snoc_lt _ _ _ (by rw [List.length_dropLast]; exact h), dropLast_getD l j h]
theorem good.reach {b : Int} {l : List (Int × Int)} (h : good b l) (x c : Int) (h0 : 0 < l.length) (hx : (l.getD (l.length - 1) (0, 0)).2 ≤ x) (hc : x < c) (hbc : b ≤ c) : good c (reach l x) := fun j hj => by
  rw [reach_len l x h0] at hj
  rcases Nat.lt_or_ge j (l.length - 1) with hlt | hge
  · rw [reach_old l x j hlt, reach_old l x (j - 1) (by omega)]
    obtain ⟨q1, q2, q3, q4⟩ := h j hj
    exact ⟨q1, q2, by omega, q4⟩
  · have hj : j = l.length - 1 := by omega
    subst hj
    rw [reach_last l x]
    obtain ⟨q1, q2, q3, q4⟩ := h (l.length - 1) (by omega)
    refine ⟨q1, by show (l.getD (l.length - 1) (0, 0)).1 ≤ x; omega, by show x < c; omega, fun hp => ?_⟩
    rw [reach_old l x _ (by omega)]
    exact q4 hp

theorem split_last (l : List (Int × Int)) (h : 0 < l.length) : l = l.dropLast ++ [l.getD (l.length - 1) (0, 0)] := by
  have hne : l ≠ [] := List.length_pos_iff.1 h
  have h1 := (List.dropLast_concat_getLast hne).symm
  have h2 : l.getD (l.length - 1) (0, 0) = l.getLast hne := by
    rw [List.getD_eq_getElem?_getD, List.getElem?_eq_getElem (by omega), Option.getD_some, List.getLast_eq_getElem]
  rw [h2]
  exact h1
theorem inL_reach (l : List (Int × Int)) (k : Nat) (h : 0 < l.length) (hlast : (l.getD (l.length - 1) (0, 0)).2 + 1 = (k : Int)) (hle : (l.getD (l.length - 1) (0, 0)).1 ≤ (l.getD (l.length - 1) (0, 0)).2) (o : Nat) : inL (reach l (k : Int)) o = (inL l o || decide (o = k)) := by
  have h1 : inL l o = (inL l.dropLast o || decide ((l.getD (l.length - 1) (0, 0)).1 ≤ (o : Int) ∧ (o : Int) ≤ (l.getD (l.length - 1) (0, 0)).2)) := by
    conv => lhs; rw [split_last l h]
    rw [inL_snoc]
  unfold reach
  rw [inL_snoc, h1, Bool.or_assoc]
  congr 1
  rw [Bool.eq_iff_iff]
  simp only [Bool.or_eq_true, decide_eq_true_eq]
  omega

/-- What the list of a set, up to k, is: as it must be; the objects of the set are in it; its last span ends with the last object before k if that is in the set. -/
theorem ofTo_is (f : Nat → Bool) : ∀ k : Nat, good (k : Int) (ofTo f k) ∧ (∀ o, inL (ofTo f k) o = (decide (o < k) && f o)) ∧ (0 < k → f (k - 1) = true → 0 < (ofTo f k).length ∧ ((ofTo f k).getD ((ofTo f k).length - 1) (0, 0)).2 + 1 = (k : Int)) ∧
      (0 < k → f (k - 1) = false → ∀ j, j < (ofTo f k).length → ((ofTo f k).getD j (0, 0)).2 + 1 < (k : Int))
  | 0 => ⟨good_nil _, fun o => by simp [ofTo, inL], fun h => by omega, fun h => by omega⟩
  | k + 1 => by
    obtain ⟨h1, h2, h3, h4⟩ := ofTo_is f k
    have hk : ((k + 1 : Nat) : Int) = (k : Int) + 1 := by omega
    cases hf : f k with
    | false =>
      have e : ofTo f (k + 1) = ofTo f k := by rw [ofTo, if_neg (by rw [hf]; simp)]
      rw [e]
      refine ⟨h1.mono (by omega), fun o => ?_, fun _ h => ?_, fun _ _ j hj => ?_⟩
      · rw [h2 o]
        by_cases ho : o = k
        · subst ho; rw [hf]; simp
        · congr 1
          rw [Bool.eq_iff_iff]
          simp only [decide_eq_true_eq]
          omega
      · rw [show k + 1 - 1 = k from rfl, hf] at h; cases h
      · have := (h1 j hj).2.2.1
        omega
    | true =>
      by_cases hp : 0 < k ∧ f (k - 1) = true
      · have e : ofTo f (k + 1) = reach (ofTo f k) (k : Int) := by rw [ofTo, if_pos hf, if_pos hp]
        obtain ⟨q1, q2⟩ := h3 hp.1 hp.2
        have hgl := h1 ((ofTo f k).length - 1) (by omega)
        rw [e]
        refine ⟨h1.reach (k : Int) _ q1 (by omega) (by omega) (by omega), fun o => ?_, fun _ _ => ?_, fun _ h => ?_⟩
        · rw [inL_reach _ k q1 q2 hgl.2.1, h2 o]
          rw [Bool.eq_iff_iff]
          simp only [Bool.or_eq_true, Bool.and_eq_true, decide_eq_true_eq]
          constructor
          · rintro (⟨a1, a2⟩ | rfl)
            · exact ⟨by omega, a2⟩
            · exact ⟨by omega, hf⟩
          · rintro ⟨a1, a2⟩
            by_cases ho : o = k
            · exact .inr ho
            · exact .inl ⟨by omega, a2⟩
        · rw [reach_len _ _ q1, reach_last _ _]
          exact ⟨q1, by show (k : Int) + 1 = _; omega⟩
        · rw [show k + 1 - 1 = k from rfl, hf] at h; cases h
      · have e : ofTo f (k + 1) = ofTo f k ++ [((k : Int), (k : Int))] := by rw [ofTo, if_pos hf, if_neg hp]
        rw [e]
        refine ⟨h1.snoc _ _ (by show (0 : Int) ≤ (k : Int); omega) (Int.le_refl _) (by show (k : Int) < _; omega) (by omega) ?_, fun o => ?_, fun _ _ => ?_, fun _ h => ?_⟩
        · intro hl
          have hk0 : 0 < k := by
            cases k with
            | zero => simp [ofTo] at hl
            | succ m => omega
          have hfk : f (k - 1) = false := by
            cases hq : f (k - 1) with
            | false => rfl
            | true => exact absurd ⟨hk0, hq⟩ hp
          have := h4 hk0 hfk ((ofTo f k).length - 1) (by omega)
          show _ < (k : Int)
          omega
        · rw [inL_snoc, h2 o]
          rw [Bool.eq_iff_iff]
          simp only [Bool.or_eq_true, Bool.and_eq_true, decide_eq_true_eq]
          constructor
          · rintro (⟨a1, a2⟩ | a1)
            · exact ⟨by omega, a2⟩
            · have : o = k := by omega
              subst this
              exact ⟨by omega, hf⟩
          · rintro ⟨a1, a2⟩
            by_cases ho : o = k
            · exact .inr (by omega)
            · exact .inl ⟨by omega, a2⟩
        · rw [List.length_append, List.length_singleton, Nat.add_sub_cancel, getD_snoc_eq]
          exact ⟨by omega, by show (k : Int) + 1 = _; omega⟩
        · rw [show k + 1 - 1 = k from rfl, hf] at h; cases h
theorem ofTo_short (f : Nat → Bool) : ∀ k, (ofTo f k).length ≤ k
  | 0 => Nat.le_refl _
  | k + 1 => by
    have h := ofTo_short f k
    rw [ofTo]
    split
    · split
      · unfold Sp.reach
        rw [List.length_append, List.length_dropLast, List.length_singleton]
        omega
      · rw [List.length_append, List.length_singleton]
        omega
    · omega
theorem good_ofL (f : Nat → Bool) : good 256 (ofL f) := (ofTo_is f 256).1
theorem inL_ofL (f : Nat → Bool) (o : Nat) (ho : o < 256) : inL (ofL f) o = f o := by
  unfold ofL
  rw [(ofTo_is f 256).2.1 o]
  simp [ho]

end Sp
end Go.Proofs.Ytbbmngabbbehcaa
