/-
  Numbers' bytes, there and back: what is read, laid again, are the same bytes; what is laid is read as it was.
-/
import Derived.Test.YtmcaehdhfpeadaaByRow
namespace Go.Proofs.Ytmcaehdhfpeadaa
open Go.RowKit

namespace Pk
theorem nb_canon : ∀ f l, (∀ x ∈ l, isB x) → lead f l < f → lead f l < l.length → ¬ (l.getD (lead f l) 0 = 0 ∧ 0 < lead f l) →
    ∃ v : Nat, val (l.take (lead f l + 1)) = (v : Int) ∧ nb f v = l.take (lead f l + 1) ∧ (l.getD (lead f l) 0 ≠ 0 → 1 ≤ v)
  | 0, l, _, h, _, _ => absurd h (by omega)
  | f + 1, [], _, _, h, _ => absurd h (by simp)
  | f + 1, b :: r, hb, h1, h2, h3 => by
    have hbb := hb b (by simp)
    unfold isB at hbb
    by_cases hc : 128 ≤ b
    · have hl : lead (f + 1) (b :: r) = lead f r + 1 := by
        show (if 128 ≤ b then lead f r + 1 else 0) = _
        rw [if_pos hc]
      rw [hl] at h1 h2 h3 ⊢
      have hg : (b :: r).getD (lead f r + 1) 0 = r.getD (lead f r) 0 := by simp
      rw [hg] at h3 ⊢
      have hnz : r.getD (lead f r) 0 ≠ 0 := fun e => h3 ⟨e, by omega⟩
      obtain ⟨v, e1, e2, e3⟩ := nb_canon f r (fun x hx => hb x (List.mem_cons_of_mem _ hx)) (by omega) (by simpa using h2) (fun e => hnz e.1)
      have hv := e3 hnz
      refine ⟨v * 128 + (b - 128).toNat, ?_, ?_, fun _ => by omega⟩
      · show val (r.take (lead f r + 1)) * 128 + b % 128 = _
        rw [e1]
        omega
      · unfold nb
        rw [if_neg (by omega), show (v * 128 + (b - 128).toNat) / 128 = v from by omega, e2, show (((v * 128 + (b - 128).toNat) % 128 + 128 : Nat) : Int) = b from by omega]
        rfl
    · have hl : lead (f + 1) (b :: r) = 0 := by
        show (if 128 ≤ b then lead f r + 1 else 0) = _
        rw [if_neg hc]
      rw [hl] at h1 h2 h3 ⊢
      refine ⟨b.toNat, ?_, ?_, fun e => ?_⟩
      · show (0 : Int) * 128 + b % 128 = _
        omega
      · unfold nb
        rw [if_pos (by omega), show ((b.toNat : Nat) : Int) = b from by omega]
        rfl
      · have : b ≠ 0 := by simpa using e
        omega

/-- What is read, laid again, are the same bytes. -/
theorem num_back (l : List Int) (hl : ∀ x ∈ l, isB x) (v k : Nat) (h : num l = ((v : Int), (k : Int), 0)) : bytesOf v = l.take k := by
  have h0 := lead_le 9 l
  unfold num at h
  split at h
  · simp at h
  · split at h
    · simp at h
    · split at h
      · simp at h
      · rename_i h9 hs hz
        obtain ⟨u, e1, e2, _⟩ := nb_canon 9 l hl (by omega) (by omega) hz
        rw [e1] at h
        injection h with h1 h2
        injection h2 with h2 _
        have hu : u = v := by omega
        have hk : k = lead 9 l + 1 := by omega
        subst hu
        subst hk
        exact e2

theorem lead_nb : ∀ f n (m : List Int), n < 128 ^ (f + 1) → lead (f + 1) (nb (f + 1) n ++ m) ≤ f ∧ lead (f + 1) (nb (f + 1) n ++ m) + 1 = (nb (f + 1) n).length ∧ (1 ≤ n → (nb (f + 1) n ++ m).getD (lead (f + 1) (nb (f + 1) n ++ m)) 0 ≠ 0)
  | f, n, m, h => by
    by_cases hn : n < 128
    · have hb : nb (f + 1) n = [(n : Int)] := by unfold nb; rw [if_pos hn]
      rw [hb]
      have hl : lead (f + 1) ([(n : Int)] ++ m) = 0 := by
        show (if 128 ≤ (n : Int) then lead f m + 1 else 0) = 0
        rw [if_neg (by omega)]
      rw [hl]
      exact ⟨Nat.zero_le _, rfl, fun h1 => by
        show (n : Int) ≠ 0
        omega⟩
    · match f, h with
      | 0, h => simp at h; omega
      | f + 1, h =>
        have hb : nb (f + 1 + 1) n = ((n % 128 + 128 : Nat) : Int) :: nb (f + 1) (n / 128) := by
          rw [nb, if_neg hn]
        have hd : n / 128 < 128 ^ (f + 1) := by
          rw [Nat.div_lt_iff_lt_mul (by omega)]
          rw [Nat.pow_succ] at h
          exact h
        obtain ⟨i1, i2, i3⟩ := lead_nb f (n / 128) m hd
        rw [hb]
        have hl : lead (f + 1 + 1) (((n % 128 + 128 : Nat) : Int) :: nb (f + 1) (n / 128) ++ m) = lead (f + 1) (nb (f + 1) (n / 128) ++ m) + 1 := by
          show (if 128 ≤ ((n % 128 + 128 : Nat) : Int) then lead (f + 1) (nb (f + 1) (n / 128) ++ m) + 1 else 0) = _
          rw [if_pos (by omega)]
        rw [hl]
        refine ⟨by omega, by rw [List.length_cons]; omega, fun _ => ?_⟩
        have k := i3 (by omega)
        rw [List.cons_append, List.getD_cons_succ]
        exact k

/-- What is laid is read as it was, whatever stands behind. -/
theorem num_laid (n : Nat) (hn : n ≤ 9223372036854775807) (m : List Int) : num (bytesOf n ++ m) = ((n : Int), ((bytesOf n).length : Int), 0) := by
  have h128 : (128 : Nat) ^ 9 = 9223372036854775808 := by decide
  have h1280 : (128 : Nat) ^ 10 = 1180591620717411303424 := by decide
  obtain ⟨i1, i2, i3⟩ : lead 9 (nb 9 n ++ m) ≤ 8 ∧ lead 9 (nb 9 n ++ m) + 1 = (nb 9 n).length ∧ (1 ≤ n → (nb 9 n ++ m).getD (lead 9 (nb 9 n ++ m)) 0 ≠ 0) := lead_nb 8 n m (by omega)
  have hz := i3
  unfold bytesOf at *
  unfold num
  rw [if_neg (by omega), if_neg (by rw [List.length_append]; have := nb_len 9 n; omega)]
  rw [if_neg ?_, i2, List.take_append_of_le_length (Nat.le_refl _), List.take_length, val_nb 9 n (by omega)]
  · rw [← i2]
    rfl
  · rintro ⟨e1, e2⟩
    by_cases h0 : 1 ≤ n
    · exact hz h0 e1
    · have : n = 0 := by omega
      subst this
      have : lead 9 (nb 9 0 ++ m) = 0 := by
        have : (nb 9 0).length = 1 := rfl
        omega
      omega

/-- A row that is laid is read as it was, whatever stands behind. -/
theorem row_laid (r m : List Int) (hr : r.length ≤ 9223372036854775807) : row (laid r ++ m) (r.length : Int) = (r, ((laid r).length : Int), 0) := by
  have hl : laid r ++ m = bytesOf r.length ++ (r ++ m) := by unfold laid; rw [List.append_assoc]
  have hrow : ∀ l most, row l most = if most < 0 then ([], 0, 1) else if (num l).2.2 ≠ 0 then ([], 0, (num l).2.2) else if most < (num l).1 then ([], 0, 4) else if (l.length : Int) - (num l).2.1 < (num l).1 then ([], 0, 5) else ((l.drop (num l).2.1.toNat).take (num l).1.toNat, (num l).2.1 + (num l).1, 0) := fun _ _ => rfl
  rw [hl, hrow, num_laid r.length hr (r ++ m), if_neg (by omega), if_neg (by simp), if_neg (by simp), if_neg (by simp; omega)]
  have hd : (bytesOf r.length ++ (r ++ m)).drop (bytesOf r.length).length = r ++ m := List.drop_left
  simp only [Int.toNat_natCast]
  rw [hd, List.take_left]
  unfold laid
  rw [List.length_append]
  simp
end Pk

end Go.Proofs.Ytmcaehdhfpeadaa
