/-
  Plain mathematics of a walk over the objects of a set. Nothing of the program is imported.
-/
import Derived.Test.YtnnmcnbpnfegpaaSpMore
namespace Go.Proofs.Ytnnmcnbpnfegpaa
namespace Sp

/-- The objects of a set, up to k, rising. -/
def obTo (f : Nat → Bool) : Nat → List Int
  | 0 => []
  | k + 1 => obTo f k ++ (if f k = true then [(k : Int)] else [])
def obL (f : Nat → Bool) : List Int := obTo f 256
theorem obTo_yes (f : Nat → Bool) (k : Nat) (h : f k = true) : obTo f (k + 1) = obTo f k ++ [(k : Int)] := by rw [obTo, if_pos h]
theorem obTo_no (f : Nat → Bool) (k : Nat) (h : f k = false) : obTo f (k + 1) = obTo f k := by rw [obTo, if_neg (by rw [h]; simp), List.append_nil]
theorem obTo_len (f : Nat → Bool) : ∀ k, (obTo f k).length = szTo f k
  | 0 => rfl
  | k + 1 => by
    rcases two (f k) with h | h
    · rw [obTo_yes f k h, List.length_append, obTo_len f k, szTo, if_pos h]
      rfl
    · rw [obTo_no f k h, obTo_len f k, szTo, if_neg (by rw [h]; simp)]
theorem obL_len (f : Nat → Bool) : (obL f).length = sz f := obTo_len f 256
theorem obTo_pre (f : Nat → Bool) (k : Nat) : ∀ m, k ≤ m → obTo f k <+: obTo f m
  | 0, h => by rw [Nat.le_zero.1 h]; exact List.prefix_rfl
  | m + 1, h => by
    rcases Nat.lt_or_ge m k with h1 | h1
    · rw [show k = m + 1 from by omega]; exact List.prefix_rfl
    · exact (obTo_pre f k m h1).trans ⟨_, rfl⟩
theorem obTo_gap (f : Nat → Bool) (m : Nat) : ∀ n, m ≤ n → (∀ p, m ≤ p → p < n → f p = false) → obTo f n = obTo f m
  | 0, h, _ => by rw [Nat.le_zero.1 h]
  | n + 1, h, hf => by
    rcases Nat.lt_or_ge n m with h1 | h1
    · rw [show m = n + 1 from by omega]
    · rw [obTo_no f n (hf n h1 (by omega)), obTo_gap f m n h1 (fun p h2 h3 => hf p h2 (by omega))]

/-- The last that has come; -1 if none has. -/
def lastOf (pre : List Int) : Int := pre.getLast?.getD (-1)
theorem lastOf_snoc (pre : List Int) (x : Int) : lastOf (pre ++ [x]) = x := by unfold lastOf; rw [List.getLast?_concat]; rfl
theorem pre_at (f : Nat → Bool) (pre : List Int) : ∀ k, pre <+: obTo f k → ∃ m, m ≤ k ∧ lastOf pre = (m : Int) - 1 ∧ pre = obTo f m ∧ (0 < m → f (m - 1) = true)
  | 0, h => by
    have : pre = [] := List.prefix_nil.1 h
    subst this
    exact ⟨0, Nat.le_refl _, rfl, rfl, fun h => by omega⟩
  | k + 1, h => by
    rcases two (f k) with hf | hf
    · rw [obTo_yes f k hf] at h
      rcases List.prefix_concat_iff.1 h with h | h
      · refine ⟨k + 1, Nat.le_refl _, ?_, by rw [obTo_yes f k hf]; exact h, fun _ => hf⟩
        rw [h, lastOf_snoc]
        omega
      · obtain ⟨m, h1, h2, h3, h4⟩ := pre_at f pre k h
        exact ⟨m, by omega, h2, h3, h4⟩
    · rw [obTo_no f k hf] at h
      obtain ⟨m, h1, h2, h3, h4⟩ := pre_at f pre k h
      exact ⟨m, by omega, h2, h3, h4⟩
theorem lastOf_bd (f : Nat → Bool) (pre : List Int) (h : pre <+: obL f) : -1 ≤ lastOf pre ∧ lastOf pre ≤ 255 := by
  obtain ⟨m, h1, h2, _, _⟩ := pre_at f pre 256 h
  omega
/-- Which is the next one? -/
theorem next_iff (f : Nat → Bool) (pre : List Int) (x : Int) (h : pre <+: obL f) :
    pre ++ [x] <+: obL f ↔ lastOf pre < x ∧ x ≤ 255 ∧ f x.toNat = true ∧ ∀ p : Nat, lastOf pre < (p : Int) → (p : Int) < x → f p = false := by
  obtain ⟨m, h1, h2, h3, _⟩ := pre_at f pre 256 h
  constructor
  · intro hx
    obtain ⟨n, g1, g2, g3, g4⟩ := pre_at f (pre ++ [x]) 256 hx
    rw [lastOf_snoc] at g2
    have hn : 0 < n := by
      cases n with
      | zero => simp [obTo] at g3
      | succ n => omega
    obtain ⟨k, rfl⟩ : ∃ k, n = k + 1 := ⟨n - 1, by omega⟩
    have hk : f k = true := g4 hn
    have e1 : pre = obTo f k := by
      rw [obTo_yes f k hk] at g3
      exact List.append_inj_left' g3 rfl
    have lm : ∀ a c, a ≤ c → (obTo f a).length ≤ (obTo f c).length := fun a c hac => (obTo_pre f a c hac).length_le
    have lk : (obTo f (k + 1)).length = (obTo f k).length + 1 := by rw [obTo_yes f k hk]; simp
    have e2 : (obTo f m).length = (obTo f k).length := by rw [← h3, ← e1]
    have hmk : m ≤ k := by
      rcases Nat.lt_or_ge k m with hlt | hge
      · have := lm (k + 1) m (by omega)
        omega
      · exact hge
    refine ⟨by omega, by omega, by rw [show x.toNat = k from by omega]; exact hk, fun p hp1 hp2 => ?_⟩
    rcases two (f p) with hp | hp
    · have l1 : (obTo f (p + 1)).length = (obTo f p).length + 1 := by rw [obTo_yes f p hp]; simp
      have l2 := lm m p (by omega)
      have l3 := lm (p + 1) k (by omega)
      omega
    · exact hp
  · rintro ⟨a1, a2, a3, a4⟩
    obtain ⟨k, rfl⟩ : ∃ k : Nat, x = (k : Int) := ⟨x.toNat, by omega⟩
    have hk : f k = true := a3
    have e1 : obTo f k = obTo f m := obTo_gap f m k (by omega) (fun p p1 p2 => a4 p (by omega) (by omega))
    rw [h3, ← e1, ← obTo_yes f k hk]
    exact obTo_pre f (k + 1) 256 (by omega)

end Sp
end Go.Proofs.Ytnnmcnbpnfegpaa
